package cidr_test

import (
	"bytes"
	"math"
	"math/big"
	"math/rand"
	"net/netip"
	"slices"
	"strconv"
	"strings"
	"testing"

	"hagioscope/addr"
	"hagioscope/api"
	"hagioscope/cidr"
)

// at is the address that s tells.
func at(t *testing.T, s string) api.Addr {
	t.Helper()
	a, ok := addr.Parse(s)
	if !ok {
		t.Fatalf("no address: %q", s)
	}
	return a
}

// of is the Cidr that s tells.
func of(t *testing.T, s string) api.Cidr {
	t.Helper()
	c, ok := cidr.Parse(s)
	if !ok {
		t.Fatalf("no Cidr: %q", s)
	}
	return c
}

// oddBits are numbers of bits at all ends, most of them none that may be.
var oddBits = []int{math.MinInt, math.MinInt + 1, math.MinInt + 95, math.MinInt + 96, math.MinInt + 128, -1000, -129, -128, -97, -96, -32, -1, 129, 130, 160, 224, 255, 256, 257, 1000, math.MaxInt - 128, math.MaxInt - 96, math.MaxInt - 1, math.MaxInt}

// randomAddrs are addresses in which bytes 0, ff and others are mixed, one in three of four, the same ones in each run.
func randomAddrs(n int) []api.Addr {
	source := rand.New(rand.NewSource(4))
	out := make([]api.Addr, n)
	for i := range out {
		for j := range out[i] {
			switch source.Intn(4) {
			case 0:
				out[i][j] = 0xff
			case 1:
				out[i][j] = byte(source.Intn(256))
			}
		}
		if i%3 == 0 {
			out[i] = addr.Of4([4]byte(out[i][12:]))
		}
	}
	return out
}

// masked is the first bits of a by numbers without an end: a second opinion.
func masked(a api.Addr, bits int) api.Addr {
	low := uint(128 - min(max(bits, 0), 128))
	n := new(big.Int).SetBytes(a[:])
	n.Rsh(n, low).Lsh(n, low)
	var out api.Addr
	n.FillBytes(out[:])
	return out
}

// has says whether a has the first bits of c: a second opinion, bit by bit.
func has(c api.Cidr, a api.Addr) bool {
	if c.Bits < 0 || c.Bits > 128 || masked(c.Addr, c.Bits) != c.Addr {
		return false
	}
	for i := range c.Bits {
		if (a[i/8]^c.Addr[i/8])>>(7-i%8)&1 == 1 {
			return false
		}
	}
	return true
}

// P4.1

func TestOfWritten(t *testing.T) {
	a := at(t, "ffff:ffff:7fff:ffff:ffff:ffff:ffff:ffa5")
	for bits, want := range map[int]string{
		0: "::", 1: "8000::", 15: "fffe::", 16: "ffff::", 17: "ffff:8000::", 32: "ffff:ffff::", 33: "ffff:ffff::", 34: "ffff:ffff:4000::",
		64: "ffff:ffff:7fff:ffff::", 96: "ffff:ffff:7fff:ffff:ffff:ffff::", 127: "ffff:ffff:7fff:ffff:ffff:ffff:ffff:ffa4", 128: "ffff:ffff:7fff:ffff:ffff:ffff:ffff:ffa5",
	} {
		if got := cidr.Of(a, bits); got != (api.Cidr{Addr: at(t, want), Bits: bits}) {
			t.Errorf("Of(.., %d): %v, not %s", bits, got, want)
		}
	}
	for _, bits := range oddBits {
		want := api.Cidr{}
		if bits > 0 {
			want = api.Cidr{Addr: a, Bits: 128}
		}
		if got := cidr.Of(a, bits); got != want {
			t.Errorf("Of(.., %d): %v", bits, got)
		}
	}
}

func TestOfEveryBit(t *testing.T) {
	for _, a := range randomAddrs(60) {
		for bits := -200; bits <= 300; bits++ {
			want := api.Cidr{Addr: masked(a, bits), Bits: min(max(bits, 0), 128)}
			got := cidr.Of(a, bits)
			if got != want {
				t.Errorf("Of(%x, %d): %v", a, bits, got)
			}
			if !cidr.Right(got) || cidr.Of(got.Addr, got.Bits) != got {
				t.Errorf("Of(%x, %d) is not right", a, bits)
			}
		}
	}
}

func TestRight(t *testing.T) {
	for bits := 0; bits <= 128; bits++ {
		c := cidr.Of(at(t, "a5a5:5a5a:ff00:ff:1234:5678:9abc:def0"), bits)
		if !cidr.Right(c) {
			t.Errorf("Right(%v): false", c)
		}
		for i := range 128 { // a bit may be another one just among the first
			other := c
			other.Addr[i/8] ^= 0x80 >> (i % 8)
			if want := i < bits; cidr.Right(other) != want {
				t.Errorf("Right(%v): %t", other, !want)
			}
		}
		for fewer := range bits { // and there may be fewer bits just while none is lost
			other := api.Cidr{Addr: c.Addr, Bits: fewer}
			if want := masked(c.Addr, fewer) == c.Addr; cidr.Right(other) != want {
				t.Errorf("Right(%v): %t", other, !want)
			}
		}
	}
	for _, bits := range oddBits {
		for _, a := range []api.Addr{{}, at(t, "1.2.3.4"), at(t, "ffff::")} {
			if c := (api.Cidr{Addr: a, Bits: bits}); cidr.Right(c) {
				t.Errorf("Right(%v): true", c)
			}
		}
	}
	if !cidr.Right(api.Cidr{}) {
		t.Error("a zero one is every address")
	}
}

func TestHasWritten(t *testing.T) {
	for text, row := range map[string]struct{ in, out string }{
		"10.0.0.0/8":        {"10.0.0.0 10.255.255.255 10.1.2.3 ::ffff:10.9.9.9", "9.255.255.255 11.0.0.0 ::10.1.2.3 a00:: ::"},
		"10.1.0.0/15":       {"10.0.0.0 10.1.255.255", "10.2.0.0 9.255.255.255"},
		"1.2.3.4/32":        {"1.2.3.4 ::ffff:102:304", "1.2.3.5 1.2.3.3 ::102:304"},
		"1.2.3.4/31":        {"1.2.3.4 1.2.3.5", "1.2.3.6 1.2.3.3"},
		"0.0.0.0/0":         {"0.0.0.0 255.255.255.255 ::ffff:0:0", "::fffe:ffff:ffff ::1:0:0:0 :: ::1"},
		"::/0":              {":: ::1 1.2.3.4 ffff::", ""},
		"::/1":              {":: 7fff:: 1.2.3.4", "8000:: ffff::"},
		"::/128":            {"::", "::1 8000:: 0.0.0.0"},
		"2001:db8::/32":     {"2001:db8:: 2001:db8:ffff::1", "2001:db9:: 2001:db7:ffff:: 1.2.3.4"},
		"::ffff:1.2.3.4/95": {"1.2.3.4 9.9.9.9 ::fffe:1:2", "::fffd:1:2 :: ::1:0:0:0"},
	} {
		c := of(t, text)
		for _, s := range strings.Fields(row.in) {
			if !cidr.Has(c, at(t, s)) {
				t.Errorf("%s has not %s", text, s)
			}
		}
		for _, s := range strings.Fields(row.out) {
			if cidr.Has(c, at(t, s)) {
				t.Errorf("%s has %s", text, s)
			}
		}
	}
}

func TestHasEveryBit(t *testing.T) {
	for _, a := range randomAddrs(12) {
		for bits := 0; bits <= 128; bits++ {
			c := cidr.Of(a, bits)
			if !cidr.Has(c, a) || !cidr.Has(c, c.Addr) {
				t.Errorf("%v has not %x", c, a)
			}
			for i := range 128 {
				other := a
				other[i/8] ^= 0x80 >> (i % 8)
				if want := i >= bits; cidr.Has(c, other) != want {
					t.Errorf("Has(%v, %x): %t", c, other, !want)
				}
			}
		}
	}
}

// TestHasNotRight asks those that are not right, which have no address, not even their own.
func TestHasNotRight(t *testing.T) {
	for _, a := range append(randomAddrs(20), api.Addr{}) {
		for _, bits := range oddBits {
			if c := (api.Cidr{Addr: a, Bits: bits}); cidr.Has(c, a) || cidr.Has(c, api.Addr{}) {
				t.Errorf("%v has an address", c)
			}
		}
		for bits := 0; bits <= 128; bits++ {
			c := api.Cidr{Addr: a, Bits: bits}
			for _, of := range []api.Addr{a, masked(a, bits), {}} {
				if want := has(c, of); cidr.Has(c, of) != want {
					t.Errorf("Has(%v, %x): %t", c, of, !want)
				}
			}
		}
	}
}

// P4.2

// refused fails if Parse takes s, or answers something beside its false.
func refused(t *testing.T, s string) {
	t.Helper()
	if c, ok := cidr.Parse(s); ok || c != (api.Cidr{}) {
		t.Errorf("Parse(%q): %v %t", s, c, ok)
	}
}

// asNetip holds Parse against the library's reader, which takes the same texts.
func asNetip(t *testing.T, s string) {
	t.Helper()
	p, err := netip.ParsePrefix(s)
	if err != nil {
		refused(t, s)
		return
	}
	bits := p.Bits()
	if p.Addr().Is4() {
		bits += 96
	}
	want := api.Cidr{Addr: masked(p.Addr().As16(), bits), Bits: bits}
	if c, ok := cidr.Parse(s); c != want || !ok {
		t.Errorf("Parse(%q): %v %t, not %v", s, c, ok, want)
	}
}

func TestParseWritten(t *testing.T) {
	for s, want := range map[string]api.Cidr{
		"10.1.2.3/8":             {Addr: addr.Of4([4]byte{10}), Bits: 104},
		"10.1.2.3/0":             {Addr: addr.Of4([4]byte{}), Bits: 96},
		"10.1.2.3/1":             {Addr: addr.Of4([4]byte{}), Bits: 97},
		"255.255.255.255/9":      {Addr: addr.Of4([4]byte{255, 128}), Bits: 105},
		"10.1.2.3/31":            {Addr: addr.Of4([4]byte{10, 1, 2, 2}), Bits: 127},
		"10.1.2.3/32":            {Addr: addr.Of4([4]byte{10, 1, 2, 3}), Bits: 128},
		"::/0":                   {},
		"ffff::1/0":              {},
		"::/1":                   {Bits: 1},
		"::1/128":                {Addr: api.Addr{15: 1}, Bits: 128},
		"::1/127":                {Bits: 127},
		"2001:DB8::a0/32":        {Addr: api.Addr{0x20, 0x01, 0x0d, 0xb8}, Bits: 32},
		"1:2:3:4:5:6:7:8/33":     {Addr: api.Addr{0, 1, 0, 2}, Bits: 33},
		"1:2:3:4:5:6:7:8/47":     {Addr: api.Addr{0, 1, 0, 2, 0, 2}, Bits: 47},
		"::ffff:10.1.2.3/104":    {Addr: addr.Of4([4]byte{10}), Bits: 104},
		"::ffff:10.1.2.3/128":    {Addr: addr.Of4([4]byte{10, 1, 2, 3}), Bits: 128},
		"::ffff:10.1.2.3/96":     {Addr: addr.Of4([4]byte{}), Bits: 96},
		"::ffff:10.1.2.3/95":     {Addr: api.Addr{10: 0xff, 11: 0xfe}, Bits: 95},
		"::ffff:10.1.2.3/32":     {Bits: 32},
		"::ffff:10.1.2.3/8":      {Bits: 8},
		"::10.1.2.3/104":         {Addr: api.Addr{12: 10}, Bits: 104},
		"1:2:3:4:5:6:10.1.2.3/8": {Bits: 8},
	} {
		if got, ok := cidr.Parse(s); got != want || !ok {
			t.Errorf("Parse(%q): %v %t, not %v", s, got, ok, want)
		}
		asNetip(t, s)
	}
}

func TestParseWrong(t *testing.T) {
	for _, s := range []string{
		"", "/", "//", "/0", "/8", "8", "x", "x/8", "0/0", ":/0", "./0", "*/0",
		"1.2.3.4", "1.2.3.4/", "1.2.3.4//8", "1.2.3.4/8/", "1.2.3.4/8/8", "/1.2.3.4/8", "/1.2.3.4", "8/1.2.3.4", "1.2.3.4\\8", "1.2.3.4:8", "1.2.3.4 8",
		"1.2.3.4/33", "1.2.3.4/34", "1.2.3.4/96", "1.2.3.4/104", "1.2.3.4/128", "1.2.3.4/129", "1.2.3.4/1000", "1.2.3.4/99999999999999999999", "1.2.3.4/18446744073709551624", "1.2.3.4/4294967304",
		"1.2.3.4/-1", "1.2.3.4/-0", "1.2.3.4/+8", "1.2.3.4/08", "1.2.3.4/00", "1.2.3.4/032", "1.2.3.4/0x8", "1.2.3.4/a", "1.2.3.4/8a", "1.2.3.4/8.", "1.2.3.4/8.0", "1.2.3.4/1e1", "1.2.3.4/255.0.0.0",
		" 1.2.3.4/8", "1.2.3.4/8 ", "1.2.3.4 /8", "1.2.3.4/ 8", "1.2.3.4/8\n", "1.2.3.4/8\x00", "1.2.3.4/\t8", "1.2.3.4\t/8", "1.2.3.4/\uff18", "1.2.3.4/\xff", "1.2.3.4\u22158",
		"1.2.3/8", "1.2.3./8", "1.2.3.4.5/8", "10/8", "10.0/8", "256.2.3.4/8", "01.2.3.4/8", "1.2.3.4%a/8",
		"::", "::/", "::/129", "::/130", "::/200", "::/256", "::/1000", "::/-1", "::/00", "::/064", "::/0/1", "::/0/", "::/::", "::1", ":::/0", "1:2:3:4:5:6:7/8", "1:2:3:4:5:6:7:8:9/8", "g::/8", "::%a/8", "::/8%a", "[::]/0", "[::/0]",
		"::ffff:1.2.3.4/129", "::ffff:1.2.3.4/", "::ffff:1.2.3.4", "::ffff:1.2.3.256/8", "1.2.3.4::/8", "::/f", "::/ff",
	} {
		refused(t, s)
		asNetip(t, s)
	}
}

// TestParseEveryNumber tries each number of bits, and those beyond, as they are told and with zeros ahead.
func TestParseEveryNumber(t *testing.T) {
	for text, row := range map[string]struct{ most, ahead int }{"254.253.252.251": {32, 96}, "fefd:fcfb::a5a5:ffff": {128, 0}, "::ffff:254.253.252.251": {128, 0}, "::": {128, 0}, "0.0.0.0": {32, 96}} {
		a := at(t, text)
		for n := range 1100 {
			s := text + "/" + strconv.Itoa(n)
			refused(t, text+"/0"+strconv.Itoa(n))
			refused(t, text+"/-"+strconv.Itoa(n))
			if n > row.most {
				refused(t, s)
				continue
			}
			want := api.Cidr{Addr: masked(a, n+row.ahead), Bits: n + row.ahead}
			if got, ok := cidr.Parse(s); got != want || !ok {
				t.Errorf("Parse(%q): %v %t", s, got, ok)
			}
		}
	}
}

// seeds are texts of all shapes that are right.
var seeds = []string{"1.2.3.4/8", "10.255.0.99/32", "0.0.0.0/0", "::/0", "::1/128", "a::b/99", "1:2:3:4:5:6:7:8/64", "::ffff:1.2.3.4/104", "1:2:3:4:5:6:1.2.3.4/120", "2001:DB8::00a0/32"}

// TestParseNeighbours holds all texts that differ from a right one in one byte against a second opinion.
func TestParseNeighbours(t *testing.T) {
	for _, s := range seeds {
		asNetip(t, s)
		for at := range len(s) + 1 {
			for i := range 256 {
				one := string([]byte{byte(i)})
				asNetip(t, s[:at]+one+s[at:])
				if at < len(s) {
					asNetip(t, s[:at]+one+s[at+1:])
				}
			}
			if at < len(s) {
				asNetip(t, s[:at]+s[at+1:])
			}
			asNetip(t, s[:at])
			asNetip(t, s[at:])
			asNetip(t, s+s[at:])
		}
	}
}

func TestPrintWritten(t *testing.T) {
	for _, row := range []struct {
		a    string
		bits int
		want string
	}{
		{"10.0.0.0", 104, "10.0.0.0/8"},
		{"0.0.0.0", 96, "0.0.0.0/0"},
		{"1.2.3.4", 128, "1.2.3.4/32"},
		{"::", 0, "::/0"},
		{"::", 96, "::/96"},
		{"::", 104, "::/104"},
		{"::", 128, "::/128"},
		{"2001:db8::", 32, "2001:db8::/32"},
		{"::102:304", 128, "::102:304/128"},
		{"::fffe:0:0", 95, "::fffe:0:0/95"},
		// those that are not right are printed as they are
		{"1.2.3.4", 96, "1.2.3.4/0"},
		{"1.2.3.4", 97, "1.2.3.4/1"},
		{"1.2.3.4", 95, "1.2.3.4/95"},
		{"1.2.3.4", 8, "1.2.3.4/8"},
		{"1.2.3.4", 0, "1.2.3.4/0"},
		{"1.2.3.4", -1, "1.2.3.4/-1"},
		{"1.2.3.4", 129, "1.2.3.4/33"},
		{"1.2.3.4", 1096, "1.2.3.4/1000"},
		{"1.2.3.4", math.MaxInt, "1.2.3.4/9223372036854775711"},
		{"1.2.3.4", math.MinInt, "1.2.3.4/-9223372036854775808"},
		{"::1", 0, "::1/0"},
		{"::1", 96, "::1/96"},
		{"::1", 129, "::1/129"},
		{"::1", -96, "::1/-96"},
		{"::1", math.MaxInt, "::1/9223372036854775807"},
		{"::1", math.MinInt, "::1/-9223372036854775808"},
		{"::", -10, "::/-10"},
	} {
		if got := cidr.Print(api.Cidr{Addr: at(t, row.a), Bits: row.bits}); got != row.want {
			t.Errorf("Print(%s, %d): %q, not %q", row.a, row.bits, got, row.want)
		}
	}
}

func TestPrintEvery(t *testing.T) {
	for _, a := range append(randomAddrs(60), api.Addr{}, addr.Of4([4]byte{})) {
		try := func(bits int) {
			want := addr.Print(a) + "/" + strconv.Itoa(bits)
			if addr.Four(a) && bits >= 96 {
				want = addr.Print(a) + "/" + strconv.Itoa(bits-96)
			}
			if got := cidr.Print(api.Cidr{Addr: a, Bits: bits}); got != want {
				t.Errorf("Print(%x, %d): %q, not %q", a, bits, got, want)
			}
		}
		for bits := -200; bits <= 300; bits++ {
			try(bits)
		}
		for _, bits := range oddBits {
			try(bits)
		}
	}
}

// P4.3

// listed fails if All of s does not answer what the texts tell, in their order.
func listed(t *testing.T, s *cidr.Set, texts ...string) {
	t.Helper()
	got := s.All()
	var told []string
	for _, c := range got {
		told = append(told, cidr.Print(c))
	}
	if !slices.Equal(told, texts) {
		t.Errorf("All: %v, not %v", told, texts)
	}
}

// found fails if Find of s does not answer what the text tells; none, if it is empty.
func found(t *testing.T, s *cidr.Set, a, want string) {
	t.Helper()
	got, ok := s.Find(at(t, a))
	if want == "" {
		if ok || got != (api.Cidr{}) {
			t.Errorf("Find(%s): %v %t, not none", a, got, ok)
		}
		return
	}
	if got != of(t, want) || !ok {
		t.Errorf("Find(%s): %v %t, not %s", a, got, ok, want)
	}
}

func TestNew(t *testing.T) {
	s := cidr.New()
	listed(t, s)
	for _, a := range []string{"::", "0.0.0.0", "1.2.3.4", "ffff::"} {
		found(t, s, a, "")
	}
	if s.Drop(api.Cidr{}) || s.Drop(of(t, "1.2.3.4/8")) {
		t.Error("something was in a new set")
	}
	listed(t, s)
}

func TestAddAndDrop(t *testing.T) {
	s := cidr.New()
	ten, zero := of(t, "10.0.0.0/8"), api.Cidr{}
	for _, want := range []bool{true, false, false} {
		if s.Add(ten) != want {
			t.Errorf("Add: %t", !want)
		}
		listed(t, s, "10.0.0.0/8")
	}
	if !s.Add(zero) || s.Add(zero) {
		t.Error("Add of a zero one, which is right")
	}
	listed(t, s, "::/0", "10.0.0.0/8")
	for _, text := range []string{"10.0.0.0/9", "10.0.0.0/7", "::/1", "11.0.0.0/8", "::a00:0/104"} {
		if s.Drop(of(t, text)) {
			t.Errorf("Drop(%s): true", text)
		}
	}
	listed(t, s, "::/0", "10.0.0.0/8")
	if !s.Drop(ten) || s.Drop(ten) || s.Drop(ten) {
		t.Error("Drop")
	}
	listed(t, s, "::/0")
	if !s.Add(ten) || !s.Drop(zero) || s.Drop(zero) {
		t.Error("Add again, Drop of a zero one")
	}
	listed(t, s, "10.0.0.0/8")
}

// TestAddNotRight adds what is not right, which leaves the set as it was.
func TestAddNotRight(t *testing.T) {
	s := cidr.New()
	for _, a := range []api.Addr{{}, at(t, "10.0.0.0"), at(t, "ffff::1")} {
		for _, bits := range append(slices.Clone(oddBits), 0, 7, 64, 100) {
			c := api.Cidr{Addr: a, Bits: bits}
			if a == (api.Addr{}) && 0 <= bits && bits <= 128 {
				continue
			}
			if s.Add(c) || s.Drop(c) {
				t.Errorf("%v is in", c)
			}
		}
	}
	listed(t, s)
	found(t, s, "10.0.0.0", "")
}

func TestFindWritten(t *testing.T) {
	s := cidr.New()
	for _, text := range []string{"10.1.0.0/16", "10.0.0.0/8", "10.1.2.3/32", "10.1.2.0/24", "2001:db8::/32", "2001:db8:1::/48", "::1/128"} {
		if !s.Add(of(t, text)) {
			t.Errorf("Add(%s): false", text)
		}
	}
	for a, want := range map[string]string{
		"10.1.2.3": "10.1.2.3/32", "10.1.2.4": "10.1.2.0/24", "10.1.3.3": "10.1.0.0/16", "10.2.2.3": "10.0.0.0/8", "11.1.2.3": "", "::ffff:10.1.2.3": "10.1.2.3/32",
		"2001:db8::1": "2001:db8::/32", "2001:db8:1::": "2001:db8:1::/48", "2001:db8:2::": "2001:db8::/32", "2001:db9::": "", "::1": "::1/128", "::2": "", "::": "", "::10.1.2.3": "",
	} {
		found(t, s, a, want)
	}
	s.Add(of(t, "0.0.0.0/0"))
	found(t, s, "11.1.2.3", "0.0.0.0/0")
	found(t, s, "::2", "")
	s.Add(of(t, "::/0"))
	found(t, s, "11.1.2.3", "0.0.0.0/0")
	found(t, s, "::2", "::/0")
	s.Drop(of(t, "10.1.2.3/32"))
	s.Drop(of(t, "10.1.0.0/16"))
	found(t, s, "10.1.2.3", "10.1.2.0/24")
	found(t, s, "10.1.3.3", "10.0.0.0/8")
}

// TestFindEveryBit puts all Cidrs of one address in, and takes the one with the most bits out, one by one.
func TestFindEveryBit(t *testing.T) {
	for _, a := range randomAddrs(6) {
		s := cidr.New()
		for bits := range 129 {
			if !s.Add(cidr.Of(a, bits)) {
				t.Errorf("Add(%x, %d): false", a, bits)
			}
		}
		for bits := 128; bits >= 0; bits-- {
			c, ok := s.Find(a)
			if c != cidr.Of(a, bits) || !ok {
				t.Errorf("Find(%x): %v %t, not %d bits", a, c, ok, bits)
			}
			for i := range bits { // an address that differs in a bit lies in those ahead of that bit
				other := a
				other[i/8] ^= 0x80 >> (i % 8)
				if c, ok := s.Find(other); c != cidr.Of(a, i) || !ok {
					t.Errorf("Find(%x): %v %t, not %d bits", other, c, ok, i)
				}
			}
			if !s.Drop(c) {
				t.Errorf("Drop(%v): false", c)
			}
		}
		if c, ok := s.Find(a); ok || c != (api.Cidr{}) {
			t.Errorf("Find(%x) of an empty set: %v %t", a, c, ok)
		}
	}
}

func TestAllWritten(t *testing.T) {
	order := []string{
		"::/0", "::/1", "::/96", "::/128", "::1/128", "0.0.0.0/0", "0.0.0.0/32", "9.0.0.0/8", "10.0.0.0/8", "10.0.0.0/9", "10.0.0.0/32", "10.0.0.1/32", "10.1.0.0/16", "127.0.0.0/8", "128.0.0.0/1", "255.255.255.255/32",
		"::1:0:0:0/80", "0:0:1::/48", "1::/16", "100::/8", "100::/128", "7fff::/16", "8000::/1", "8000::/2", "ffff::/16", "ffff:ffff:ffff:ffff:ffff:ffff:ffff:ffff/128",
	}
	source := rand.New(rand.NewSource(44))
	for range 50 {
		s := cidr.New()
		for _, i := range source.Perm(len(order)) {
			if !s.Add(of(t, order[i])) {
				t.Errorf("Add(%s): false", order[i])
			}
		}
		listed(t, s, order...)
		listed(t, s, order...)
	}
}

// model is a second opinion on a set: a row of Cidrs.
type model []api.Cidr

func (m *model) add(c api.Cidr) bool {
	if !cidr.Right(c) || slices.Contains(*m, c) {
		return false
	}
	*m = append(*m, c)
	return true
}

func (m *model) drop(c api.Cidr) bool {
	i := slices.Index(*m, c)
	if i < 0 {
		return false
	}
	*m = slices.Delete(*m, i, i+1)
	return true
}

func (m *model) find(a api.Addr) (api.Cidr, bool) {
	out, ok := api.Cidr{}, false
	for _, c := range *m {
		if has(c, a) && (!ok || c.Bits > out.Bits) {
			out, ok = c, true
		}
	}
	return out, ok
}

func (m *model) all() []api.Cidr {
	out := slices.Clone(*m)
	slices.SortFunc(out, func(a, b api.Cidr) int {
		if n := bytes.Compare(a.Addr[:], b.Addr[:]); n != 0 {
			return n
		}
		return a.Bits - b.Bits
	})
	return out
}

// play plays each three bytes as a call against a set, and holds what it answers against the second opinion: an address is told by few bits, that calls may meet.
func play(t *testing.T, calls []byte) {
	t.Helper()
	s, m := cidr.New(), model{}
	for ; len(calls) >= 3; calls = calls[3:] {
		a := api.Addr{0: calls[0] & 0xc0, 3: calls[0] & 3}
		if calls[0]&4 != 0 {
			a = addr.Of4([4]byte{calls[0] & 0xc0, 0, 0, calls[0] & 3})
		}
		bits := int(calls[1]) - 20
		c := cidr.Of(a, bits)
		if calls[2]&8 != 0 {
			c = api.Cidr{Addr: a, Bits: bits}
		}
		switch calls[2] & 7 {
		case 0:
			if got, want := s.Drop(c), m.drop(c); got != want {
				t.Fatalf("Drop(%v): %t", c, got)
			}
		case 1, 2, 3:
			if got, want := s.Add(c), m.add(c); got != want {
				t.Fatalf("Add(%v): %t", c, got)
			}
		case 4, 5, 6:
			c, ok := s.Find(a)
			if want, wantOk := m.find(a); c != want || ok != wantOk {
				t.Fatalf("Find(%x): %v %t, not %v %t", a, c, ok, want, wantOk)
			}
		default:
			if got, want := s.All(), m.all(); !slices.Equal(got, want) {
				t.Fatalf("All: %v, not %v", got, want)
			}
		}
	}
	if got, want := s.All(), m.all(); !slices.Equal(got, want) {
		t.Fatalf("All: %v, not %v", got, want)
	}
}

func TestSetModel(t *testing.T) {
	source := rand.New(rand.NewSource(43))
	for range 200 {
		calls := make([]byte, 3*source.Intn(600))
		source.Read(calls)
		play(t, calls)
	}
}

// TestSetsApart uses two sets, of which none changes the other.
func TestSetsApart(t *testing.T) {
	one, two := cidr.New(), cidr.New()
	one.Add(of(t, "10.0.0.0/8"))
	listed(t, two)
	two.Add(of(t, "::/0"))
	found(t, one, "1.2.3.4", "")
	found(t, two, "10.1.2.3", "::/0")
	if two.Drop(of(t, "10.0.0.0/8")) || !one.Drop(of(t, "10.0.0.0/8")) {
		t.Error("Drop")
	}
	listed(t, one)
	listed(t, two, "::/0")
}

// P4.4

func TestAllIsNew(t *testing.T) {
	s := cidr.New()
	texts := []string{"::/0", "10.0.0.0/8", "10.1.0.0/16"}
	for _, text := range texts {
		s.Add(of(t, text))
	}
	one, two := s.All(), s.All()
	one = one[:cap(one)]
	for i := range one {
		one[i] = api.Cidr{Addr: api.Addr{9}, Bits: 9}
	}
	for i, text := range texts {
		if two[i] != of(t, text) {
			t.Errorf("%v after another answer was changed", two)
		}
	}
	listed(t, s, texts...)
	found(t, s, "10.1.2.3", "10.1.0.0/16")
	s.Drop(of(t, "::/0"))
	if two[0] != (api.Cidr{}) || len(two) != 3 {
		t.Errorf("%v after the set was changed", two)
	}
}

// P4.5

func TestPrintedIsParsed(t *testing.T) {
	told := map[string]api.Cidr{}
	for _, a := range append(randomAddrs(300), api.Addr{}, addr.Of4([4]byte{}), addr.Of4([4]byte{255, 255, 255, 255})) {
		for bits := range 129 {
			c := cidr.Of(a, bits)
			text := cidr.Print(c)
			if got, ok := cidr.Parse(text); got != c || !ok {
				t.Errorf("%v is printed as %q, which is %v %t", c, text, got, ok)
			}
			if before, twice := told[text]; twice && before != c {
				t.Errorf("%q is printed of %v and %v", text, before, c)
			}
			told[text] = c
		}
	}
}

func TestFoundHasMostBits(t *testing.T) {
	source := rand.New(rand.NewSource(45))
	addrs := randomAddrs(300)
	for range 20 {
		s := cidr.New()
		for range 400 {
			s.Add(cidr.Of(addrs[source.Intn(len(addrs))], source.Intn(129)))
		}
		all := s.All()
		for _, a := range addrs {
			c, ok := s.Find(a)
			most := -1
			for _, other := range all {
				if cidr.Has(other, a) {
					most = max(most, other.Bits)
				}
			}
			if ok != (most >= 0) || ok && (c.Bits != most || !cidr.Has(c, a) || !slices.Contains(all, c)) {
				t.Errorf("Find(%x): %v %t, but there is one of %d bits", a, c, ok, most)
			}
		}
	}
}

// W1: great texts end, and are told right.

func TestGreatTexts(t *testing.T) {
	const n = 1 << 20
	for _, s := range []string{"/", "//8", "1", "0", "9", ":", "::", "1.2.3.4/8", "::/0", " ", "\xff", "1.2.3.4/"} {
		great := strings.Repeat(s, n)
		for _, s := range []string{great, "1.2.3.4/1" + great, "::/1" + great, great + "/8", great + "1.2.3.4/8", "1.2.3.4" + great, "1.2.3.4/" + great} {
			if got, ok := cidr.Parse(s); ok || got != (api.Cidr{}) {
				t.Errorf("%d bytes from %q on: %v %t", len(s), s[:20], got, ok)
			}
		}
	}
}

// FuzzParse holds what is read, and what is printed of it, against a second opinion.
func FuzzParse(f *testing.F) {
	for _, s := range seeds {
		f.Add(s)
	}
	f.Fuzz(func(t *testing.T, s string) {
		asNetip(t, s)
		if c, ok := cidr.Parse(s); ok && (!cidr.Right(c) || of(t, cidr.Print(c)) != c) {
			t.Errorf("%q: %v", s, c)
		}
	})
}

// FuzzSet plays calls against a set and its second opinion.
func FuzzSet(f *testing.F) {
	f.Add([]byte{0, 0, 1, 0, 0, 7})
	f.Fuzz(play)
}
