package pins_test

import (
	"bytes"
	"cmp"
	"math"
	"math/rand"
	"slices"
	"strconv"
	"strings"
	"testing"
	"unsafe"

	"hagioscope/addr"
	"hagioscope/api"
	"hagioscope/cidr"
	"hagioscope/name"
	"hagioscope/pins"
	"hagioscope/policy"
)

// at is the Cidr of a text.
func at(s string) api.Cidr {
	c, ok := cidr.Parse(s)
	if !ok {
		panic(s)
	}
	return c
}

// address is the one of a text.
func address(s string) api.Addr {
	a, ok := addr.Parse(s)
	if !ok {
		panic(s)
	}
	return a
}

// pin is a pin of texts.
func pin(name, where string, until int) api.Pin {
	return api.Pin{Name: name, Cidr: at(where), Until: until}
}

// added fails if Add of x does not answer that.
func added(t *testing.T, x *pins.Table, p api.Pin, want bool) {
	t.Helper()
	if x.Add(p) != want {
		t.Fatalf("Add(%.200v): %t", p, !want)
	}
}

// count fails if x has not as many pins.
func count(t *testing.T, x *pins.Table, want int) {
	t.Helper()
	if n := x.Len(); n != want {
		t.Fatalf("Len: %d, not %d", n, want)
	}
}

// checked fails if Check does not answer that.
func checked(t *testing.T, x *pins.Table, host string, a api.Addr, now, want int) {
	t.Helper()
	if got := x.Check(host, a, now); got != want {
		t.Fatalf("Check(%.200q, %s, %d): %d, not %d", host, addr.Print(a), now, got, want)
	}
}

// lies fails if Live does not answer the Cidrs of these texts.
func lies(t *testing.T, x *pins.Table, host string, now int, want ...string) {
	t.Helper()
	var l []api.Cidr
	for _, s := range want {
		l = append(l, at(s))
	}
	if got := x.Live(host, now); !slices.Equal(got, l) {
		t.Fatalf("Live(%.200q, %d): %v, not %v", host, now, got, want)
	}
}

// model is a second opinion on a table: all pins that came and may be, in the order in which they did.
type model []api.Pin

// add says whether p may be a pin.
func (m *model) add(p api.Pin) bool {
	n, e := name.Normal(p.Name)
	if e != api.OK || n != p.Name || p.Cidr != cidr.Of(p.Cidr.Addr, p.Cidr.Bits) || p.Until < 0 || p.Until > 1<<40 {
		return false
	}
	*m = append(*m, p)
	return true
}

// ends answers up to which tick each name lies where it does: the greatest of all that came counts, or none.
func (m model) ends(host string) map[api.Cidr]int {
	out := map[api.Cidr]int{}
	for _, p := range m {
		if p.Name != host {
			continue
		}
		end := p.Until
		if end == 0 {
			end = math.MaxInt
		}
		out[p.Cidr] = max(out[p.Cidr], end)
	}
	return out
}

// count answers how many pins there are.
func (m model) count() int {
	names := map[string]bool{}
	for _, p := range m {
		names[p.Name] = true
	}
	n := 0
	for host := range names {
		n += len(m.ends(host))
	}
	return n
}

// live answers where host lies.
func (m model) live(host string, now int) []api.Cidr {
	var out []api.Cidr
	for c, end := range m.ends(host) {
		if end == math.MaxInt || now < end {
			out = append(out, c)
		}
	}
	slices.SortFunc(out, func(a, b api.Cidr) int {
		return cmp.Or(bytes.Compare(a.Addr[:], b.Addr[:]), cmp.Compare(a.Bits, b.Bits))
	})
	return out
}

// check answers what the pins say, bit by bit.
func (m model) check(host string, a api.Addr, now int) int {
	live := m.live(host, now)
	if len(live) == 0 {
		return 0
	}
	for _, c := range live {
		alike := 0
		for alike < 128 && (a[alike/8]^c.Addr[alike/8])>>(7-alike%8)&1 == 0 {
			alike++
		}
		if alike >= c.Bits {
			return 1
		}
	}
	return 2
}

// holds fails if x is not as m is, for these hosts, addresses and ticks.
func holds(t *testing.T, x *pins.Table, m model, hosts []string, addrs []api.Addr, ticks []int) {
	t.Helper()
	count(t, x, m.count())
	for _, host := range hosts {
		for _, now := range ticks {
			if got, want := x.Live(host, now), m.live(host, now); !slices.Equal(got, want) {
				t.Fatalf("Live(%q, %d): %v, not %v", host, now, got, want)
			}
			for _, a := range addrs {
				checked(t, x, host, a, now, m.check(host, a, now))
			}
		}
	}
}

// P20.1

func TestNewOfNone(t *testing.T) {
	for _, x := range []*pins.Table{pins.New(nil), pins.New([]api.Pin{}), pins.New(make([]api.Pin, 3)), pins.New([]api.Pin{pin("A", "::/0", 0), pin("a", "::/0", -1)})} {
		count(t, x, 0)
		lies(t, x, "", 0)
		lies(t, x, "a", 0)
		checked(t, x, "", api.Addr{}, 0, api.PinNone)
		checked(t, x, "a", api.Addr{}, math.MinInt, api.PinNone)
	}
}

// TestNewSkipsWrong has wrong pins among others, of which each counts.
func TestNewSkipsWrong(t *testing.T) {
	x := pins.New([]api.Pin{{}, pin("a", "10.0.0.0/8", 5), pin("A", "11.0.0.0/8", 0), pin("a", "12.0.0.0/8", -1), pin("b", "13.0.0.0/8", 0), {Name: "a", Cidr: api.Cidr{Bits: 129}}, pin("a", "10.0.0.0/8", 7), pin("a", "10.0.0.0/8", 1<<40+1), pin("a", "::/0", 3)})
	count(t, x, 3)
	lies(t, x, "a", 0, "::/0", "10.0.0.0/8")
	lies(t, x, "a", 6, "10.0.0.0/8")
	lies(t, x, "a", 7)
	lies(t, x, "b", 7, "13.0.0.0/8")
	lies(t, x, "A", 0)
}

// wrongNames are no names in their one form.
var wrongNames = []string{"", ".", "A", "aA", "a.", "a..b", ".a", "-a", "a-", "12", "a.12", "*", "*.a", "a b", " a", "a\n", "0::1", "::A", "::ffff:1.2.3.4", "01.2.3.4", "1.2.3.4.", "[::1]", "a:80", "\xff", "\u00e4", "a\x00", strings.Repeat("a.", 126) + "bc", strings.Repeat("a", 64)}

func TestAddWrong(t *testing.T) {
	x := pins.New([]api.Pin{pin("a", "10.0.0.0/8", 5)})
	wrong := func(p api.Pin) {
		t.Helper()
		added(t, x, p, false)
		count(t, x, 1)
		lies(t, x, p.Name, math.MaxInt)
		lies(t, x, "a", 4, "10.0.0.0/8")
		lies(t, x, "a", 5)
	}
	for _, s := range wrongNames {
		wrong(pin(s, "10.0.0.0/8", 0))
	}
	one := api.Addr{15: 1}
	for _, c := range []api.Cidr{{Bits: -1}, {Bits: 129}, {Bits: math.MinInt}, {Bits: math.MaxInt}, {Addr: one}, {Addr: one, Bits: 127}, {Addr: one, Bits: 129}, {Addr: addr.Of4([4]byte{10, 1}), Bits: 96 + 8}, {Addr: addr.Of4([4]byte{10}), Bits: 8}} {
		wrong(api.Pin{Name: "a", Cidr: c})
		wrong(api.Pin{Name: "b", Cidr: c, Until: 7})
	}
	for _, n := range []int{-1, -9, -1 << 40, math.MinInt, 1<<40 + 1, 1 << 41, math.MaxInt} {
		wrong(pin("a", "10.0.0.0/8", n)) // which is there
		wrong(pin("b", "::/0", n))
	}
}

func TestAddRight(t *testing.T) {
	x := pins.New(nil)
	names := []string{"a", "a.b", "_x.y-z", "1a", "1.2.3.4", "::1", "2001:db8::a0", "xn--4ca", strings.Repeat("a.", 126) + "b", strings.Repeat("a", 63)}
	n := 0
	for _, s := range names {
		for _, c := range []string{"::/0", "0.0.0.0/0", "10.0.0.0/8", "1.2.3.4/32", "::1/128", "2001:db8::/32", "ffff::/16"} {
			added(t, x, pin(s, c, n), true)
			n++
			count(t, x, n)
		}
	}
	for _, s := range names {
		lies(t, x, s, -1, "::/0", "::1/128", "0.0.0.0/0", "1.2.3.4/32", "10.0.0.0/8", "2001:db8::/32", "ffff::/16")
	}
	added(t, x, api.Pin{Name: "z"}, true) // of a zero Cidr, which is every address
	added(t, x, pin("z", "10.0.0.0/8", 1<<40), true)
	count(t, x, n+2)
	lies(t, x, "z", 1<<40-1, "::/0", "10.0.0.0/8")
	lies(t, x, "z", 1<<40, "::/0")
}

// TestTwice adds each two of some ends, in both orders: the one that lasts longer counts.
func TestTwice(t *testing.T) {
	ends := []int{1, 2, 3, 7, 1 << 33, 1<<40 - 1, 1 << 40, 0} // the one that lasts longer further behind
	for i, first := range ends {
		for j, second := range ends {
			x := pins.New([]api.Pin{pin("a", "10.0.0.0/8", first), pin("b", "10.0.0.0/8", 4), pin("a", "10.0.0.0/9", 4)})
			added(t, x, pin("a", "10.0.0.0/8", second), true)
			count(t, x, 3)
			end := ends[max(i, j)]
			for _, now := range []int{-1, 0, 1, 2, 3, 4, 6, 7, 1 << 33, 1<<40 - 2, 1<<40 - 1, 1 << 40, math.MaxInt} {
				var want []string
				if end == 0 || now < end {
					want = append(want, "10.0.0.0/8")
				}
				if now < 4 {
					want = append(want, "10.0.0.0/9")
				}
				lies(t, x, "a", now, want...)
			}
			lies(t, x, "b", 3, "10.0.0.0/8") // which is another one
			lies(t, x, "b", 4)
		}
	}
}

// TestNotTwice has pins that differ in the Name or the Cidr alone.
func TestNotTwice(t *testing.T) {
	x := pins.New(nil)
	for i, p := range []api.Pin{pin("a", "::/0", 0), pin("a", "::/1", 0), pin("a", "0.0.0.0/0", 0), pin("a", "::/96", 0), pin("a", "::/128", 0), pin("b", "::/0", 0), pin("a.b", "::/0", 0), pin("1.2.3.4", "::/0", 0), pin("a", "8000::/1", 0), pin("a", "::1/128", 0)} {
		added(t, x, p, true)
		count(t, x, i+1)
	}
	lies(t, x, "a", 0, "::/0", "::/1", "::/96", "::/128", "::1/128", "0.0.0.0/0", "8000::/1")
	lies(t, x, "b", 0, "::/0")
}

// TestManyPins has more pins than a policy may, which a table has no most of.
func TestManyPins(t *testing.T) {
	var l []api.Pin
	for i := range 1000 {
		l = append(l, api.Pin{Name: "a", Cidr: cidr.Of(addr.Of4([4]byte{10, byte(i >> 8), byte(i)}), 120)})
	}
	x := pins.New(l)
	count(t, x, 1000)
	added(t, x, pin("b", "::/0", 0), true)
	count(t, x, 1001)
	live := x.Live("a", 0)
	if len(live) != 1000 {
		t.Fatal(len(live))
	}
	for i, p := range l {
		if live[i] != p.Cidr {
			t.Fatal(i, live[i])
		}
		checked(t, x, "a", p.Cidr.Addr, 0, api.PinYes)
	}
	checked(t, x, "a", address("10.9.0.0"), 0, api.PinNo)
}

// TestAddAsPolicy holds Add against what policy says of the pin alone.
func TestAddAsPolicy(t *testing.T) {
	source := rand.New(rand.NewSource(20))
	counts := map[bool]int{}
	for range 5000 {
		p := made(source)
		want := policy.Right(api.Policy{Pins: []api.Pin{p}}) == api.OK
		added(t, pins.New(nil), p, want)
		counts[want]++
	}
	if counts[true] < 1000 || counts[false] < 1000 {
		t.Error(counts)
	}
}

// P20.2

func TestExample(t *testing.T) {
	x := pins.New([]api.Pin{pin("a", "10.0.0.0/8", 0)})
	checked(t, x, "a", address("10.1.2.3"), 0, api.PinYes)
	checked(t, x, "a", address("11.0.0.0"), 0, api.PinNo)
	checked(t, x, "b", address("10.1.2.3"), 0, api.PinNone)
	checked(t, x, "b", address("11.0.0.0"), 0, api.PinNone)
}

// TestLiveOrder has all of a row in many orders, which are told in one.
func TestLiveOrder(t *testing.T) {
	order := []string{
		"::/0", "::/1", "::/96", "::/128", "::1/128", "0.0.0.0/0", "0.0.0.0/32", "9.0.0.0/8", "10.0.0.0/8", "10.0.0.0/9", "10.0.0.0/32", "10.0.0.1/32", "10.1.0.0/16", "127.0.0.0/8", "128.0.0.0/1", "255.255.255.255/32",
		"::1:0:0:0/80", "0:0:1::/48", "1::/16", "100::/8", "100::/128", "7fff::/16", "8000::/1", "8000::/2", "ffff::/16", "ffff:ffff:ffff:ffff:ffff:ffff:ffff:ffff/128",
	}
	source := rand.New(rand.NewSource(44))
	for range 50 {
		x := pins.New(nil)
		for _, i := range source.Perm(len(order)) {
			added(t, x, pin("a", order[i], (i+1)*i%3*10), true)
			added(t, x, pin("b", order[i], i+1), true)
		}
		lies(t, x, "a", 9, order...)
		lies(t, x, "a", 9, order...)
		for now := range order {
			lies(t, x, "b", now, order[now:]...)
		}
		lies(t, x, "b", len(order))
	}
}

// TestEnds asks around the ends of pins.
func TestEnds(t *testing.T) {
	x := pins.New([]api.Pin{pin("a", "1.0.0.0/8", 1), pin("a", "2.0.0.0/8", 5), pin("a", "3.0.0.0/8", 1<<40), pin("a", "4.0.0.0/8", 0)})
	for _, now := range []int{math.MinInt, math.MinInt + 1, -1 << 40, -5, -1, 0} {
		lies(t, x, "a", now, "1.0.0.0/8", "2.0.0.0/8", "3.0.0.0/8", "4.0.0.0/8")
	}
	for _, now := range []int{1, 2, 4} {
		lies(t, x, "a", now, "2.0.0.0/8", "3.0.0.0/8", "4.0.0.0/8")
	}
	for _, now := range []int{5, 6, 1 << 20, 1<<32 + 1, 1<<40 - 1} {
		lies(t, x, "a", now, "3.0.0.0/8", "4.0.0.0/8")
	}
	for _, now := range []int{1 << 40, 1<<40 + 1, math.MaxInt - 1, math.MaxInt} {
		lies(t, x, "a", now, "4.0.0.0/8")
	}
	lies(t, x, "a", 0, "1.0.0.0/8", "2.0.0.0/8", "3.0.0.0/8", "4.0.0.0/8") // nothing is gone for good
	count(t, x, 4)
}

// TestCheckEnds asks for addresses that lie in pins of different ends, and in none.
func TestCheckEnds(t *testing.T) {
	x := pins.New([]api.Pin{pin("a", "10.1.0.0/16", 5), pin("a", "10.0.0.0/8", 3), pin("a", "2001:db8::/32", 9)})
	for now, want := range map[int][4]int{
		math.MinInt: {1, 1, 2, 1}, 0: {1, 1, 2, 1}, 2: {1, 1, 2, 1}, 3: {1, 2, 2, 1}, 4: {1, 2, 2, 1}, 5: {2, 2, 2, 1}, 8: {2, 2, 2, 1}, 9: {0, 0, 0, 0}, 10: {}, math.MaxInt: {},
	} {
		for i, s := range []string{"10.1.0.9", "10.2.0.9", "11.0.0.0", "2001:db8::1"} {
			checked(t, x, "a", address(s), now, want[i])
			checked(t, x, "b", address(s), now, api.PinNone)
		}
	}
}

// TestCheckWritten has addresses at the ends of Cidrs.
func TestCheckWritten(t *testing.T) {
	for text, row := range map[string]struct{ in, out string }{
		"10.0.0.0/8":    {"10.0.0.0 10.255.255.255 ::ffff:10.9.9.9", "9.255.255.255 11.0.0.0 ::10.1.2.3 a00:: ::"},
		"1.2.3.4/32":    {"1.2.3.4 ::ffff:102:304", "1.2.3.5 1.2.3.3 ::102:304"},
		"0.0.0.0/0":     {"0.0.0.0 255.255.255.255", "::fffe:ffff:ffff ::1:0:0:0 :: ::1"},
		"::/0":          {":: ::1 1.2.3.4 ffff::", ""},
		"::/128":        {"::", "::1 8000:: 0.0.0.0"},
		"2001:db8::/32": {"2001:db8:: 2001:db8:ffff::1", "2001:db9:: 2001:db7:ffff:: 1.2.3.4"},
	} {
		x := pins.New([]api.Pin{pin("a", text, 0), pin("b", "::/0", 0), pin("c", text, 1)})
		for _, s := range strings.Fields(row.in) {
			checked(t, x, "a", address(s), 7, api.PinYes)
		}
		for _, s := range strings.Fields(row.out) {
			checked(t, x, "a", address(s), 7, api.PinNo)
			checked(t, x, "b", address(s), 7, api.PinYes)
			checked(t, x, "c", address(s), 7, api.PinNone)
			checked(t, x, "c", address(s), 0, api.PinNo)
		}
	}
}

// TestEachOfManyHas has an address in just one of many Cidrs, be it the first or the last one.
func TestEachOfManyHas(t *testing.T) {
	x := pins.New(nil)
	for i := range 100 {
		x.Add(api.Pin{Name: "a", Cidr: cidr.Of(addr.Of4([4]byte{byte(2 * i), 1}), 112)})
	}
	for i := range 100 {
		checked(t, x, "a", addr.Of4([4]byte{byte(2 * i), 1, 7}), 0, api.PinYes)
		checked(t, x, "a", addr.Of4([4]byte{byte(2 * i), 2, 7}), 0, api.PinNo)
		checked(t, x, "a", addr.Of4([4]byte{byte(2*i + 1), 1, 7}), 0, api.PinNo)
	}
}

// TestHostAsItIs asks for texts that would be the name in another form: a pin's Name is held against the text.
func TestHostAsItIs(t *testing.T) {
	x := pins.New([]api.Pin{pin("a.b", "10.0.0.0/8", 0), pin("1.2.3.4", "10.0.0.0/8", 0), pin("::1", "10.0.0.0/8", 0)})
	for _, host := range []string{"a.b", "1.2.3.4", "::1"} {
		lies(t, x, host, 0, "10.0.0.0/8")
		checked(t, x, host, address("10.1.2.3"), 0, api.PinYes)
		checked(t, x, host, address("1.2.3.4"), 0, api.PinNo)
	}
	for _, host := range []string{"", "A.b", "a.b.", "a", "b", "x.a.b", ".a.b", "*.a.b", "*.b", "*", "*.*", "a.b ", "a.b\x00", "0::1", "[::1]", "::ffff:1.2.3.4", "01.2.3.4", "\xff"} {
		lies(t, x, host, 0)
		checked(t, x, host, address("10.1.2.3"), 0, api.PinNone)
	}
}

// made is a pin of few names, Cidrs and ends, that they may meet, and of some that may not be; the same one for the same source.
func made(source *rand.Rand) api.Pin {
	names := []string{"a", "b", "a.b", "::1", "1.2.3.4", "A", "a.", ""}
	p := api.Pin{Name: names[source.Intn(len(names)-source.Intn(4))], Cidr: cidr.Of(someAddr(source), 96+source.Intn(4)*8), Until: source.Intn(7)}
	switch source.Intn(20) {
	case 0:
		p.Cidr.Bits = source.Intn(140) - 5
	case 1:
		p.Until = -p.Until
	case 2:
		p.Until += 1<<40 - 3
	case 3:
		p.Cidr = cidr.Of(p.Cidr.Addr, source.Intn(129))
	}
	return p
}

// someAddr is an address of few, that they may meet.
func someAddr(source *rand.Rand) api.Addr {
	if source.Intn(8) == 0 {
		return api.Addr{0: byte(source.Intn(2)), 15: byte(source.Intn(2))}
	}
	return addr.Of4([4]byte{byte(10 + source.Intn(2)), byte(source.Intn(2)), byte(source.Intn(2))})
}

// TestMade holds tables of made pins against the second opinion.
func TestMade(t *testing.T) {
	source := rand.New(rand.NewSource(202))
	hosts := []string{"a", "b", "a.b", "::1", "1.2.3.4", "A", "c", ""}
	said := map[int]int{}
	for range 300 {
		var l []api.Pin
		var m model
		for range source.Intn(40) {
			l = append(l, made(source))
			m.add(l[len(l)-1])
		}
		x := pins.New(l)
		addrs := []api.Addr{someAddr(source), someAddr(source), someAddr(source), {}}
		ticks := []int{math.MinInt, source.Intn(8) - 1, 3, 6, 7, 1<<40 + source.Intn(7) - 3, math.MaxInt}
		holds(t, x, m, hosts, addrs, ticks)
		for range 8 {
			p := made(source)
			added(t, x, p, m.add(p))
			holds(t, x, m, hosts[:2], addrs, ticks)
		}
		for _, a := range addrs {
			said[x.Check("a", a, 5)]++
		}
	}
	for _, n := range []int{api.PinNone, api.PinYes, api.PinNo} {
		if said[n] < 50 {
			t.Errorf("%d was said only %d times", n, said[n])
		}
	}
}

// TestTablesApart uses two tables, of which none changes the other.
func TestTablesApart(t *testing.T) {
	l := []api.Pin{pin("a", "10.0.0.0/8", 5)}
	one, two := pins.New(l), pins.New(l)
	added(t, one, pin("a", "10.0.0.0/8", 0), true)
	added(t, two, pin("a", "::/0", 2), true)
	lies(t, one, "a", 0, "10.0.0.0/8")
	lies(t, one, "a", 9, "10.0.0.0/8")
	lies(t, two, "a", 0, "::/0", "10.0.0.0/8")
	lies(t, two, "a", 9)
	count(t, one, 1)
	count(t, two, 2)
}

// TestAgain asks the same again: asking changes nothing.
func TestAgain(t *testing.T) {
	x := pins.New([]api.Pin{pin("a", "10.0.0.0/8", 5), pin("a", "10.1.0.0/16", 0), pin("b", "::/0", 5)})
	for range 50 {
		lies(t, x, "a", 9, "10.1.0.0/16")
		lies(t, x, "a", 4, "10.0.0.0/8", "10.1.0.0/16")
		lies(t, x, "b", 5)
		lies(t, x, "b", 4, "::/0")
		checked(t, x, "a", address("10.2.0.0"), 5, api.PinNo)
		checked(t, x, "a", address("10.2.0.0"), 4, api.PinYes)
		checked(t, x, "b", address("10.2.0.0"), 5, api.PinNone)
		count(t, x, 3)
	}
}

// P20.3, W6

// text is a text that may be written to.
func text(s string) (string, []byte) {
	b := []byte(s)
	return unsafe.String(unsafe.SliceData(b), len(b)), b
}

// TestNotKept spoils what was handed in, also where a pin was there already.
func TestNotKept(t *testing.T) {
	x := pins.New(nil)
	for i := range 4 {
		s, b := text("a.b")
		p := api.Pin{Name: s, Cidr: at("10.0.0.0/8"), Until: []int{3, 5, 4, 0}[i]}
		added(t, x, p, true)
		if string(b) != "a.b" {
			t.Errorf("what was handed in became %q", b)
		}
		copy(b, "x.y")
		count(t, x, 1)
		lies(t, x, "a.b", 2, "10.0.0.0/8")
		lies(t, x, "x.y", 2)
	}
	lies(t, x, "a.b", 9, "10.0.0.0/8")
	s, b := text("a.b")
	live := x.Live(s, 9)
	checked(t, x, s, address("10.1.1.1"), 9, api.PinYes)
	copy(b, "x.y")
	if len(live) != 1 || live[0] != at("10.0.0.0/8") {
		t.Error(live)
	}
	lies(t, x, "a.b", 9, "10.0.0.0/8")
}

// TestNewKeepsNoList spoils the list of a table, and looks whether its spare room is as it was.
func TestNewKeepsNoList(t *testing.T) {
	s, b := text("a")
	l := []api.Pin{{Name: s, Cidr: at("10.0.0.0/8"), Until: 5}, {Name: s, Cidr: at("10.0.0.0/8"), Until: 7}, pin("spare", "::/0", 5)}
	kept := slices.Clone(l)
	x := pins.New(l[:2])
	if !slices.Equal(l, kept) {
		t.Errorf("what was handed in became %v", l)
	}
	copy(b, "z")
	clear(l)
	count(t, x, 1)
	lies(t, x, "a", 6, "10.0.0.0/8")
	lies(t, x, "a", 7)
	lies(t, x, "spare", 0)
}

// TestNewMemory spoils what was answered, spare room too.
func TestNewMemory(t *testing.T) {
	x := pins.New([]api.Pin{pin("a", "10.0.0.0/8", 0), pin("a", "10.1.0.0/16", 5), pin("a", "::/0", 5)})
	one, two := x.Live("a", 0), x.Live("a", 0)
	one = append(one, api.Cidr{Bits: 7})
	clear(one[:cap(one)])
	if want := []api.Cidr{at("::/0"), at("10.0.0.0/8"), at("10.1.0.0/16")}; !slices.Equal(two, want) {
		t.Errorf("two lists share memory: %v", two)
	}
	lies(t, x, "a", 0, "::/0", "10.0.0.0/8", "10.1.0.0/16")
	checked(t, x, "a", address("10.1.0.0"), 5, api.PinYes)
	added(t, x, pin("a", "9.0.0.0/8", 0), true)
	if len(two) != 3 || two[1] != at("10.0.0.0/8") {
		t.Errorf("what was answered became %v", two)
	}
}

// P20.4

// TestOrderDoesNotCount adds the same pins in other orders, and some of them more than once.
func TestOrderDoesNotCount(t *testing.T) {
	source := rand.New(rand.NewSource(204))
	hosts := []string{"a", "b", "a.b", "::1", "1.2.3.4"}
	for range 60 {
		var l []api.Pin
		for range 30 {
			l = append(l, made(source))
		}
		first := pins.New(l)
		for range 5 {
			turned := slices.Clone(l)
			source.Shuffle(len(turned), func(i, j int) { turned[i], turned[j] = turned[j], turned[i] })
			x := pins.New(append(turned, turned[:source.Intn(30)]...))
			count(t, x, first.Len())
			for _, host := range hosts {
				for now := -1; now < 8; now++ {
					a := someAddr(source)
					checked(t, x, host, a, now, first.Check(host, a, now))
					if got, want := x.Live(host, now), first.Live(host, now); !slices.Equal(got, want) {
						t.Fatalf("Live(%q, %d): %v, not %v", host, now, got, want)
					}
				}
			}
		}
	}
}

// TestTimeGoes has live pins, of which some go from tick to tick, and none comes.
func TestTimeGoes(t *testing.T) {
	source := rand.New(rand.NewSource(2040))
	for range 200 {
		x := pins.New(nil)
		for range 30 {
			x.Add(made(source))
		}
		a := someAddr(source)
		before, said := x.Live("a", math.MinInt), x.Check("a", a, math.MinInt)
		for now := -1; now < 9; now++ {
			live, says := x.Live("a", now), x.Check("a", a, now)
			for _, c := range live {
				if !slices.Contains(before, c) {
					t.Fatalf("%v came at %d", c, now)
				}
			}
			if says != said && (said == api.PinNone || says == api.PinYes) { // none stays none, and no stays no, or becomes none
				t.Fatalf("%d became %d at %d", said, says, now)
			}
			before, said = live, says
		}
	}
}

// W1: great texts and lists end, and are told right.

func TestGreat(t *testing.T) {
	const n = 1 << 21
	x := pins.New(make([]api.Pin, n>>4))
	count(t, x, 0)
	added(t, x, api.Pin{Name: strings.Repeat("a", n)}, false)
	added(t, x, api.Pin{Name: strings.Repeat(".", n)}, false)
	added(t, x, api.Pin{Name: strings.Repeat("a.", n) + "a"}, false)
	for i := range n >> 5 {
		added(t, x, api.Pin{Name: "a" + strconv.Itoa(i), Until: i + 1}, true)
	}
	count(t, x, n>>5)
	lies(t, x, "a0", 0, "::/0")
	lies(t, x, "a"+strconv.Itoa(n>>5-1), n>>5-1, "::/0")
	lies(t, x, "a7", 8)
	lies(t, x, strings.Repeat("a", n), 0)
	checked(t, x, strings.Repeat("a", n), api.Addr{}, 0, api.PinNone)
	y := pins.New(nil)
	for i := range n >> 6 {
		added(t, y, api.Pin{Name: "a", Cidr: cidr.Of(api.Addr{byte(i >> 16), byte(i >> 8), byte(i)}, 24), Until: i + 1}, true)
	}
	if l := y.Live("a", 0); len(l) != n>>6 || l[9].Addr != (api.Addr{2: 9}) {
		t.Error(len(l))
	}
	checked(t, y, "a", api.Addr{0, 0, 9, 9}, 9, api.PinYes)
	checked(t, y, "a", api.Addr{0, 0, 9, 9}, 10, api.PinNo)
}

// FuzzTable plays each five bytes as a pin, or a question, of names in a text, and holds what is answered against the second opinion.
func FuzzTable(f *testing.F) {
	f.Add("a b a.b A", []byte{0, 10, 8, 5, 0, 0, 10, 9, 0, 1, 1, 11, 8, 0, 0, 0, 10, 8, 3, 5})
	f.Add("1.2.3.4 ::1 0::1", []byte{0, 10, 32, 5, 0, 1, 10, 33, 7, 0, 2, 0, 0, 0, 0})
	f.Add("a", []byte{0, 10, 8, 3, 0, 0, 10, 8, 0, 0, 0, 10, 8, 7, 0, 0, 10, 8, 255, 0, 0, 10, 8, 9, 5})
	f.Fuzz(func(t *testing.T, names string, calls []byte) {
		x := pins.New(nil)
		var m model
		hosts := strings.Split(names, " ")
		calls = calls[:min(len(calls), 500)] // the second opinion goes over all pins for each question
		for ; len(calls) >= 5; calls = calls[5:] {
			host, a := hosts[int(calls[0])%len(hosts)], addr.Of4([4]byte{calls[1]})
			if calls[4]&1 != 0 {
				a = api.Addr{calls[1]}
			}
			c, until := cidr.Of(a, int(calls[2])+88), int(int8(calls[3]))
			if calls[4]&2 != 0 {
				c = api.Cidr{Addr: a, Bits: int(calls[2]) - 3}
			}
			if calls[4]&4 != 0 {
				holds(t, x, m, []string{host}, []api.Addr{a}, []int{until, until + 1<<40})
				continue
			}
			p := api.Pin{Name: host, Cidr: c, Until: until}
			added(t, x, p, m.add(p))
		}
		holds(t, x, m, hosts[:min(len(hosts), 9)], []api.Addr{{}, addr.Of4([4]byte{10})}, []int{0, 5, 1 << 40})
	})
}
