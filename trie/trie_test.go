package trie_test

import (
	"math"
	"math/rand"
	"net/netip"
	"regexp"
	"slices"
	"strings"
	"testing"
	"unsafe"

	"hagioscope/api"
	"hagioscope/trie"
)

var (
	nameForm  = regexp.MustCompile(`^(?:[a-z0-9_](?:[a-z0-9_-]{0,61}[a-z0-9_])?\.)*[a-z0-9_](?:[a-z0-9_-]{0,61}[a-z0-9_])?$`)
	digitForm = regexp.MustCompile(`(?:^|\.)[0-9]+$`)
	alpnForm  = regexp.MustCompile(`^[!-~]{0,255}$`)
)

// address says whether s is the text of an address, and whether it is the one that is printed: a second opinion.
func address(s string) (is, printed bool) {
	a, err := netip.ParseAddr(s)
	if err != nil || a.Zone() != "" {
		return false, false
	}
	return true, a.Unmap().String() == s
}

// normal says whether s is a name that is no address: a second opinion.
func normal(s string) bool {
	return len(s) <= 253 && nameForm.MatchString(s) && !digitForm.MatchString(s)
}

// patternOpinion is a second opinion on patterns.
func patternOpinion(s string) bool {
	if s == "*" {
		return true
	}
	if strings.HasPrefix(s, "*.") {
		return normal(s[2:])
	}
	_, printed := address(s)
	return printed || normal(s)
}

// matchOpinion is a second opinion on what matches.
func matchOpinion(pattern, host string) bool {
	switch {
	case !patternOpinion(pattern):
		return false
	case pattern == "*" || pattern == host:
		return true
	case pattern[0] != '*':
		return false
	}
	end := len(host) - len(pattern) + 1 // of the host, where the dot of the pattern would stand
	return end >= 0 && host[end:] == pattern[1:]
}

// rightOpinion is a second opinion on rules.
func rightOpinion(r api.Rule) api.Errno {
	switch {
	case r.Priority > 1000 || r.Priority < -1000:
		return api.ErrArg
	case !patternOpinion(r.Pattern):
		return api.ErrName
	case r.Port > 65535 || r.Port < 0:
		return api.ErrPort
	case !alpnForm.MatchString(r.Alpn):
		return api.ErrArg
	}
	return api.OK
}

// weight is a second opinion on what a pattern weighs.
func weight(pattern string) int {
	if pattern == "*" {
		return 0
	}
	labels := 1 + strings.Count(strings.TrimPrefix(pattern, "*."), ".")
	if is, _ := address(pattern); is {
		labels = 1
	}
	if strings.HasPrefix(pattern, "*.") {
		return 2 * labels
	}
	return 2*labels + 1
}

// addOpinion is a second opinion on what Add of r to a trie with the rules l tells.
func addOpinion(l []api.Rule, r api.Rule) api.Errno {
	if e := rightOpinion(r); e != api.OK {
		return e
	}
	if len(l) >= 200 {
		return api.ErrFull
	}
	for _, x := range l {
		if x.Priority == r.Priority && x.Pattern == r.Pattern && x.Port == r.Port && x.Alpn == r.Alpn {
			return api.ErrTwice
		}
	}
	return api.OK
}

// counts says whether the rule x of l matches what is looked for.
func counts(x api.Rule, host string, port int, alpn []string) bool {
	return matchOpinion(x.Pattern, host) && (x.Port == 0 || x.Port == port) && (x.Alpn == "" || slices.Contains(alpn, x.Alpn))
}

// findOpinion is a second opinion on the place of the rule that counts; -1, if none does.
func findOpinion(l []api.Rule, host string, port int, alpn []string) int {
	best := -1
	for i, x := range l {
		if !counts(x, host, port, alpn) {
			continue
		}
		if best < 0 || x.Priority > l[best].Priority || x.Priority == l[best].Priority && weight(x.Pattern) > weight(l[best].Pattern) {
			best = i
		}
	}
	return best
}

// allow and deny are rules of a pattern.
func allow(pattern string) api.Rule { return api.Rule{Allow: true, Pattern: pattern} }

func deny(pattern string) api.Rule { return api.Rule{Pattern: pattern} }

// made is a trie with these rules.
func made(t *testing.T, l ...api.Rule) *trie.Trie {
	t.Helper()
	x := trie.New()
	for _, r := range l {
		added(t, x, r, api.OK)
	}
	holds(t, x, l...)
	return x
}

// added fails if Add of r does not answer that.
func added(t *testing.T, x *trie.Trie, r api.Rule, want api.Errno) {
	t.Helper()
	if e := x.Add(r); e != want {
		t.Errorf("Add(%.200v): %d, not %d", r, e, want)
	}
}

// holds fails if Rules does not answer these.
func holds(t *testing.T, x *trie.Trie, l ...api.Rule) {
	t.Helper()
	if got := x.Rules(); !slices.Equal(got, l) {
		t.Errorf("Rules: %.500v, not %.500v", got, l)
	}
}

// found fails if Find does not answer the place at, and the rule there; if it is below 0: none.
func found(t *testing.T, x *trie.Trie, at int, host string, port int, alpn ...string) {
	t.Helper()
	given := slices.Clone(alpn)
	r, place, is := x.Find(host, port, alpn)
	if !slices.Equal(alpn, given) {
		t.Errorf("what was handed in, %.200q, became %.200q", given, alpn)
	}
	if at < 0 {
		if r != (api.Rule{}) || place != 0 || is {
			t.Errorf("Find(%.100q, %d, %.100q): %v, %d, %t, not none", host, port, alpn, r, place, is)
		}
		return
	}
	if !is || place != at || r != x.Rules()[at] {
		t.Errorf("Find(%.100q, %d, %.100q): %v, %d, %t, not %d", host, port, alpn, r, place, is, at)
	}
}

// right fails if Right of r does not answer that, or Add to a new trie.
func right(t *testing.T, r api.Rule, want api.Errno) {
	t.Helper()
	if e := trie.Right(r); e != want {
		t.Errorf("Right(%.200v): %d, not %d", r, e, want)
	}
	x := trie.New()
	added(t, x, r, want)
	if want == api.OK {
		holds(t, x, r)
	} else {
		holds(t, x)
	}
}

// matches fails if Matches does not answer that.
func matches(t *testing.T, pattern, host string, want bool) {
	t.Helper()
	if got := trie.Matches(pattern, host); got != want {
		t.Errorf("Matches(%.100q, %.100q): %t", pattern, host, got)
	}
}

// row is a text of n bytes.
func row(n int) string { return strings.Repeat("a", n) }

// full is a name of 253 bytes.
func full() string { return row(63) + "." + row(63) + "." + row(63) + "." + row(61) }

// isPattern fails if the text is no pattern; isNone, if one of the texts is one.
func isPattern(t *testing.T, texts ...string) {
	t.Helper()
	for _, s := range texts {
		right(t, api.Rule{Pattern: s}, api.OK)
	}
}

func isNone(t *testing.T, texts ...string) {
	t.Helper()
	for _, s := range texts {
		right(t, api.Rule{Pattern: s}, api.ErrName)
		for _, host := range []string{s, "", "a", "x" + s, "x." + s, strings.ToLower(s), strings.TrimSuffix(s, "."), strings.TrimPrefix(s, "*"), strings.TrimPrefix(s, "*."), "x" + strings.TrimPrefix(s, "*"), "1.2.3.4"} {
			matches(t, s, host, false)
		}
	}
}

// P18.1

func TestPatterns(t *testing.T) {
	isPattern(t, "*", "a", "a.b", "*.a", "*.a.b", "www.example", "*.example", "x_1.a-b", "*._a", "1a", "*.1a", "*.1.a", "1.2.3.4a", "*.1.2.3.4.a", "0x1", "*.x", "xn--4ca.b")
	isPattern(t, "1.2.3.4", "0.0.0.0", "255.255.255.255", "::", "::1", "2001:db8::a0", "::102:304", "1:0:0:4::8", "abcd:ef01::")
	isNone(t, "", ".", "*.", "**", "*a", "*.*", "*.*.a", "*..a", "**.a", "a*", "a.*", "*a.b", "a.*.b", " *", "* ", "*. a", "x*.a", "*/a", ".*", ".*.a", "*.a.", "*.a..b", "*.-a", "*.a-", "*.12", "*.a.12", "* .a", "\xff", "*.\xff", "\u00e4", "*\u00e4")
	isNone(t, "A", "a.", "A.b", "a.B", "*.A", "*.a.B", ".a", "..", "a..b", "-a", "a-", "a.12", "12", "a b", " a", "a\n", "a:80", "a/b", "\u212a")
	isNone(t, "0::1", "::A", "0:0:0:0:0:0:0:0", "::ffff:1.2.3.4", "::1.2.3.4", "::ffff:102:304", "1.2.3.4.", "[::1]", "1.2.3", "1.2.3.04", "1.2.3.256", "::1/128", "1.2.3.4/32")
	isNone(t, "*.1.2.3.4", "*.::1", "*.::", "*.0::1", "*.::ffff:1.2.3.4", "*.2001:db8::a0", "*.0.0.0.0")
}

func TestLongPatterns(t *testing.T) {
	isPattern(t, full(), "*."+full(), row(63), "*."+row(63), strings.Repeat("a.", 126)+"b", "*."+strings.Repeat("a.", 126)+"b")
	isNone(t, full()+"a", "*."+full()+"a", row(64), "*."+row(64), strings.Repeat("a.", 127)+"b", "*."+strings.Repeat("a.", 127)+"b", row(254), "*."+row(253))
}

func TestPriorities(t *testing.T) {
	for _, n := range []int{-1000, -999, -1, 0, 1, 999, 1000} {
		right(t, api.Rule{Priority: n, Pattern: "*"}, api.OK)
	}
	for _, n := range []int{math.MinInt, math.MinInt + 1000, -65536, -1002, -1001, 1001, 1002, 65536, 1 << 32, math.MaxInt} {
		right(t, api.Rule{Priority: n, Pattern: "*"}, api.ErrArg)
	}
}

func TestPorts(t *testing.T) {
	for _, n := range []int{0, 1, 2, 80, 65534, 65535} {
		right(t, api.Rule{Pattern: "*", Port: n}, api.OK)
	}
	for _, n := range []int{math.MinInt, -65536, -80, -1, 65536, 65537, 1 << 16 * 443, 1<<32 + 80, math.MaxInt} {
		right(t, api.Rule{Pattern: "*", Port: n}, api.ErrPort)
	}
}

func TestProtocols(t *testing.T) {
	for _, s := range []string{"", "a", "h2", "http/1.1", "H2", "*", "~!", row(254), row(255)} {
		right(t, api.Rule{Pattern: "*", Alpn: s}, api.OK)
	}
	for _, s := range []string{" ", "a b", " a", "a ", "a\t", "\n", "\x00", "a\x7f", "\xff", "\u00e4", row(256), row(1000), strings.Repeat(" ", 255), row(254) + "\x80"} {
		right(t, api.Rule{Pattern: "*", Alpn: s}, api.ErrArg)
	}
	for i := range 256 {
		s := string([]byte{byte(i)})
		for _, s := range []string{s, "a" + s, s + "a"} {
			want := api.OK
			if i <= 0x20 || i >= 0x7f {
				want = api.ErrArg
			}
			right(t, api.Rule{Pattern: "*", Alpn: s}, want)
		}
	}
}

// TestFirstError has rules with more than one thing wrong: the first one is told.
func TestFirstError(t *testing.T) {
	for _, priority := range []int{0, -1001, 1001} {
		for _, pattern := range []string{"a", "A", "", "*."} {
			for _, port := range []int{0, -1, 65536} {
				for _, alpn := range []string{"", " ", row(256)} {
					for _, says := range []bool{false, true} {
						want := api.OK
						switch {
						case priority != 0:
							want = api.ErrArg
						case pattern != "a":
							want = api.ErrName
						case port != 0:
							want = api.ErrPort
						case alpn != "":
							want = api.ErrArg
						}
						right(t, api.Rule{Allow: says, Priority: priority, Pattern: pattern, Port: port, Alpn: alpn}, want)
					}
				}
			}
		}
	}
}

func TestMatches(t *testing.T) {
	for _, host := range []string{"", ".", "a", "A", "a.b", "1.2.3.4", "::1", "*", "\xff", "a b", full() + "aa", "anything: at all."} {
		matches(t, "*", host, true)
	}
	for _, host := range []string{".a.b", "x.a.b", "y.x.a.b", "X.a.b", "..a.b", " .a.b", "\xff.a.b", "*.a.b", "a.b.a.b", "1.2.3.4.a.b", "-.a.b", full() + ".a.b"} {
		matches(t, "*.a.b", host, true)
	}
	for _, host := range []string{"", ".", "a.b", "a", "b", "xa.b", "x.A.b", "x.a.B", "x.a.b.", "x.a.b.c", "x.ab", "x.b", "x.a..b", "x.a.b ", "a.b.x", "x.a-b", "x/a.b", "*", "a.b.", "\u3002a.b"} {
		matches(t, "*.a.b", host, false)
	}
	matches(t, "a.b", "a.b", true)
	for _, host := range []string{"", "a", "b", "A.b", "a.B", "a.b.", ".a.b", "x.a.b", "a.b.c", "*", "a.bb", "aa.b", "a b"} {
		matches(t, "a.b", host, false)
	}
	for _, s := range []string{"1.2.3.4", "::1", "::", "2001:db8::a0"} {
		matches(t, s, s, true)
		for _, host := range []string{"", "a", "x." + s, s + ".", "." + s, "0::1", "0:0::", "::ffff:1.2.3.4", "2001:DB8::A0", "[" + s + "]", s + "0"} {
			matches(t, s, host, false)
		}
	}
}

// TestPieces holds patterns and hosts of likely pieces against the second opinions.
func TestPieces(t *testing.T) {
	source := rand.New(rand.NewSource(18))
	pieces := []string{"*", "*.", ".", ".", ".", "a", "a", "b", "B", "-", "_", "1", "22", "::", ":", "ffff", "1.2.3.4", row(62), "\xff", " "}
	text := func() string {
		var b strings.Builder
		for range source.Intn(6) {
			b.WriteString(pieces[source.Intn(len(pieces))])
		}
		return b.String()
	}
	for range 40000 {
		pattern, host := text(), text()
		r := api.Rule{Allow: source.Intn(2) == 0, Pattern: pattern}
		if got, want := trie.Right(r), rightOpinion(r); got != want {
			t.Errorf("Right(%v): %d, not %d", r, got, want)
		}
		for _, host := range []string{host, pattern, "." + pattern, "x." + pattern, host + strings.TrimPrefix(pattern, "*"), host + strings.TrimPrefix(pattern, "*."), host + "." + pattern, strings.ToUpper(pattern)} {
			matches(t, pattern, host, matchOpinion(pattern, host))
		}
	}
}

// P18.2

func TestNew(t *testing.T) {
	x := trie.New()
	holds(t, x)
	for _, host := range []string{"", "a", "a.b", "1.2.3.4", "::1", "*", "."} {
		for _, port := range []int{0, 1, 65535, -1, math.MinInt, math.MaxInt} {
			found(t, x, -1, host, port)
			found(t, x, -1, host, port, "", "h2")
		}
	}
	holds(t, x)
	added(t, x, allow("*"), api.OK)
	holds(t, trie.New())
	holds(t, x, allow("*"))
}

func TestAddInOrder(t *testing.T) {
	l := []api.Rule{
		{Pattern: "b"}, {Pattern: "*", Allow: true}, {Pattern: "*.b"}, {Pattern: "a.b", Port: 80}, {Pattern: "a.b", Port: 80, Alpn: "h2"}, {Pattern: "a.b"}, {Pattern: "a"},
		{Pattern: "b", Priority: 1}, {Pattern: "b", Priority: -1}, {Pattern: "b", Priority: 1000, Allow: true}, {Pattern: "::1", Priority: -1000}, {Pattern: "1.2.3.4", Port: 65535}, {Pattern: "b", Alpn: "H2"}, {Pattern: "b", Alpn: "h2"},
	}
	x := trie.New()
	for i, r := range l {
		added(t, x, r, api.OK)
		holds(t, x, l[:i+1]...)
	}
	for _, r := range l {
		for range 2 {
			added(t, x, r, api.ErrTwice)
			r.Allow = !r.Allow
		}
	}
	holds(t, x, l...)
}

// TestTwice has rules that differ in one thing from one that is there.
func TestTwice(t *testing.T) {
	first := api.Rule{Priority: 5, Pattern: "*.a.b", Port: 80, Alpn: "h2"}
	for _, says := range []bool{false, true} {
		first.Allow = says
		x := made(t, first)
		for _, other := range []bool{says, !says} {
			again := first
			again.Allow = other
			added(t, x, again, api.ErrTwice)
		}
		holds(t, x, first)
		found(t, x, 0, "x.a.b", 80, "h2")
		l := []api.Rule{first}
		for _, change := range []func(*api.Rule){
			func(r *api.Rule) { r.Priority = 4 }, func(r *api.Rule) { r.Priority = -5 }, func(r *api.Rule) { r.Priority = 0 },
			func(r *api.Rule) { r.Pattern = "*.b" }, func(r *api.Rule) { r.Pattern = "a.b" }, func(r *api.Rule) { r.Pattern = "*" },
			func(r *api.Rule) { r.Port = 0 }, func(r *api.Rule) { r.Port = 81 },
			func(r *api.Rule) { r.Alpn = "" }, func(r *api.Rule) { r.Alpn = "H2" }, func(r *api.Rule) { r.Alpn = "h2c" },
		} {
			r := first
			change(&r)
			added(t, x, r, api.OK)
			added(t, x, r, api.ErrTwice)
			l = append(l, r)
			holds(t, x, l...)
		}
	}
}

func TestFull(t *testing.T) {
	x := trie.New()
	var l []api.Rule
	for i := range 200 {
		r := api.Rule{Allow: i%2 == 0, Pattern: "*.a", Port: i}
		added(t, x, r, api.OK)
		added(t, x, api.Rule{Pattern: "A"}, api.ErrName) // which takes no room
		if i < 199 {
			added(t, x, r, api.ErrTwice)
		}
		l = append(l, r)
	}
	holds(t, x, l...)
	for range 2 {
		added(t, x, api.Rule{Pattern: "*.a", Port: 200}, api.ErrFull)
		added(t, x, api.Rule{Pattern: "b"}, api.ErrFull)
		added(t, x, l[0], api.ErrFull) // ahead of ErrTwice
		added(t, x, l[199], api.ErrFull)
		added(t, x, api.Rule{Pattern: "*.a", Priority: 1001}, api.ErrArg) // ahead of ErrFull
		added(t, x, api.Rule{Pattern: "A"}, api.ErrName)
		added(t, x, api.Rule{Pattern: "*", Port: -1}, api.ErrPort)
		added(t, x, api.Rule{Pattern: "*", Alpn: " "}, api.ErrArg)
	}
	holds(t, x, l...)
	found(t, x, -1, "b", 0)
	found(t, x, 0, "x.a", 200)
	found(t, x, 0, "x.a", 199)
	x = made(t, l[1:]...)
	found(t, x, 198, "x.a", 199)
	found(t, x, -1, "x.a", 200)
}

// TestFailedAdd has rules that are refused, which leave no trace.
func TestFailedAdd(t *testing.T) {
	x := made(t, deny("*.a"))
	for _, r := range []api.Rule{{Pattern: "*", Port: -1}, {Pattern: "x.a", Priority: 1001}, {Pattern: "x.a", Alpn: " "}, {Pattern: "x.a.", Allow: true}, {Pattern: "*.a", Allow: true}} {
		if x.Add(r) == api.OK {
			t.Errorf("Add(%v): OK", r)
		}
		holds(t, x, deny("*.a"))
		found(t, x, 0, "x.a", 1)
		found(t, x, -1, "a", 1)
		found(t, x, -1, "b", 1)
	}
}

// P18.3

// TestExample is the document's own: deny *, allow *.a.b.
func TestExample(t *testing.T) {
	x := made(t, deny("*"), allow("*.a.b"))
	found(t, x, 1, "x.a.b", 80)
	found(t, x, 0, "a.b", 80)
	for _, host := range []string{"", "x", "b", "xa.b", "x.a.b.", "1.2.3.4", "X.A.B"} {
		found(t, x, 0, host, 80)
	}
	found(t, x, 1, ".a.b", 80)
}

func TestWeights(t *testing.T) {
	l := []api.Rule{deny("*"), deny("*.c"), deny("c"), deny("*.b.c"), deny("b.c"), deny("*.a.b.c"), deny("a.b.c")}
	for range 200 {
		rand.New(rand.NewSource(18)).Shuffle(len(l), func(i, j int) { l[i], l[j] = l[j], l[i] })
		x := made(t, l...)
		place := func(pattern string) int { return slices.Index(l, deny(pattern)) }
		for host, pattern := range map[string]string{
			"": "*", "x": "*", "d": "*", ".": "*", "C": "*", "1.2.3.4": "*", "::1": "*", "c": "c", "x.c": "*.c", ".c": "*.c", "bb.c": "*.c", "b.c": "b.c", "x.b.c": "*.b.c", "aa.b.c": "*.b.c",
			"a.b.c": "a.b.c", "x.a.b.c": "*.a.b.c", "a.a.b.c": "*.a.b.c", ".a.b.c": "*.a.b.c", "y.x.a.b.c": "*.a.b.c", "a.b.c.": "*", "a.b": "*", "a": "*", "a..b.c": "*.b.c", "a.b..c": "*.c", "c.c": "*.c",
		} {
			found(t, x, place(pattern), host, 0)
		}
	}
}

// TestAddressesFound has addresses, which have one label, and hosts that only look like them.
func TestAddressesFound(t *testing.T) {
	x := made(t, deny("1.2.3.4"), deny("::1"), deny("*"), deny("*.a"), deny("::102:304"), deny("*.x-4"))
	found(t, x, 0, "1.2.3.4", 1)
	found(t, x, 1, "::1", 1)
	found(t, x, 4, "::102:304", 1)
	for _, host := range []string{"4", "3.4", "2.3.4", "0.1.2.3.4", ".1.2.3.4", "x.1.2.3.4", "1.2.3.4.", "1.2.3", "01.2.3.4", "::ffff:1.2.3.4", "::1.2.3.4", "0::1", "x.::1", "::1.", ".::1", "::", "::2"} {
		found(t, x, 2, host, 1)
	}
	found(t, x, 3, "1.2.3.4.a", 1)
	found(t, x, 3, "::1.a", 1)
	found(t, x, 5, "1.2.3.x-4", 1)
	bare := made(t, deny("1.2.3.4"))
	found(t, bare, 0, "1.2.3.4", 1)
	found(t, bare, -1, "0.1.2.3.4", 1)
	found(t, bare, -1, "2.3.4", 1)
}

func TestPriorityCountsMost(t *testing.T) {
	x := made(t, api.Rule{Pattern: "a.b", Priority: -1}, api.Rule{Pattern: "*.b"}, api.Rule{Pattern: "*", Priority: 1, Port: 80}, api.Rule{Pattern: "*", Priority: 1000, Alpn: "x"}, api.Rule{Pattern: "b", Priority: -1000, Allow: true}, api.Rule{Pattern: "b", Priority: -1000, Port: 7}, api.Rule{Pattern: "b", Priority: -999, Port: 8})
	found(t, x, 1, "a.b", 1)
	found(t, x, 2, "a.b", 80)
	found(t, x, 3, "a.b", 80, "x")
	found(t, x, 1, "c.b", 1)
	found(t, x, 4, "b", 1)
	found(t, x, 4, "b", 7) // the first one of those that weigh as much
	found(t, x, 6, "b", 8)
	found(t, x, -1, "c", 1)
	found(t, x, 3, "c", 1, "y", "x")
}

func TestFirstOfEqual(t *testing.T) {
	x := made(t, api.Rule{Pattern: "a", Port: 80}, api.Rule{Pattern: "a"}, api.Rule{Pattern: "a", Alpn: "h2"}, api.Rule{Pattern: "a", Port: 81, Alpn: "h2"}, api.Rule{Pattern: "a", Port: 81})
	found(t, x, 0, "a", 80)
	found(t, x, 0, "a", 80, "h2")
	found(t, x, 1, "a", 81)
	found(t, x, 1, "a", 81, "h2")
	x = made(t, api.Rule{Pattern: "a", Port: 81, Alpn: "h2"}, api.Rule{Pattern: "a", Port: 81}, api.Rule{Pattern: "a", Alpn: "h2"}, api.Rule{Pattern: "a"})
	found(t, x, 0, "a", 81, "h2")
	found(t, x, 1, "a", 81, "x")
	found(t, x, 2, "a", 80, "h2")
	found(t, x, 3, "a", 80, "x")
}

func TestPortsFound(t *testing.T) {
	x := made(t, api.Rule{Pattern: "a", Port: 80}, api.Rule{Pattern: "*", Port: 65535}, api.Rule{Pattern: "b"})
	for _, port := range []int{math.MinInt, -80, -1, 0, 1, 79, 81, 65536 + 80, 1<<32 + 80, math.MaxInt} {
		found(t, x, -1, "a", port)
		found(t, x, 2, "b", port)
	}
	found(t, x, 0, "a", 80)
	found(t, x, 1, "a", 65535)
	found(t, x, 2, "b", 65535)
}

func TestProtocolsFound(t *testing.T) {
	x := made(t, api.Rule{Pattern: "*", Alpn: "h2"}, api.Rule{Pattern: "*", Alpn: "http/1.1"}, api.Rule{Pattern: "*.b", Alpn: "x"})
	found(t, x, -1, "a", 1)
	found(t, x, -1, "a", 1, "")
	found(t, x, -1, "a", 1, "H2", "h", "h22", "h2 ", "x")
	found(t, x, 0, "a", 1, "h2")
	found(t, x, 0, "a", 1, "http/1.1", "h2")
	found(t, x, 0, "a", 1, "h2", "h2")
	found(t, x, 1, "a", 1, "", "a", "http/1.1")
	found(t, x, 2, "a.b", 1, "h2", "x")
	found(t, x, 0, "a.b", 1, "h2")
	any := made(t, api.Rule{Pattern: "*"})
	found(t, any, 0, "a", 1)
	found(t, any, 0, "a", 1, "")
	found(t, any, 0, "a", 1, "h2")
}

// TestLongHosts has hosts that are longer than any name: what they end with matches.
func TestLongHosts(t *testing.T) {
	x := made(t, deny("*."+full()), deny(full()), deny("*."+full()[64:]), deny("*.b"), deny("b"), deny("*"))
	found(t, x, 1, full(), 1)
	found(t, x, 0, "."+full(), 1)
	found(t, x, 0, "x."+full(), 1)
	found(t, x, 0, row(1000)+"."+full(), 1)
	found(t, x, 2, "a"+full(), 1)
	found(t, x, 2, "."+full()[64:], 1)
	found(t, x, 5, full()[64:], 1)
	found(t, x, 5, full()[1:]+"x", 1)
	for _, n := range []int{1, 2, 50, 250, 251, 252, 253, 254, 255, 256, 300, 500, 1000, 5000} {
		found(t, x, 3, row(n)+".b", 1)
		found(t, x, 3, strings.Repeat(".", n)+".b", 1)
		found(t, x, 3, strings.Repeat("b.", n)+"b", 1)
		found(t, x, 5, row(n)+"b", 1)
		found(t, x, 5, strings.Repeat("b", n+1), 1)
		found(t, x, 5, row(n)+".b.", 1)
	}
	deep := strings.Repeat("b.", 126) + "c"
	y := made(t, deny("*."+deep), deny(deep), deny("*.c"))
	found(t, y, 1, deep, 1)
	found(t, y, 0, "b."+deep, 1)
	found(t, y, 0, "."+deep, 1)
	found(t, y, 2, deep[2:], 1)
	found(t, y, 2, "a"+deep, 1)
}

// P18.5

// rules are rules of few labels, the same ones for the same source, some of them not right.
func rules(source *rand.Rand, n int) []api.Rule {
	heads, labels := []string{"*.", "*.", "", ""}, []string{"a", "b", "c", "1a"}
	others := []string{"*", "*", "*", "1.2.3.4", "::1", "A", "", "0::1", "a."}
	out := make([]api.Rule, n)
	for i := range out {
		var parts []string
		for range 1 + source.Intn(4) {
			parts = append(parts, labels[source.Intn(len(labels))])
		}
		pattern := heads[source.Intn(len(heads))] + strings.Join(parts, ".")
		if source.Intn(5) == 0 {
			pattern = others[source.Intn(len(others))]
		}
		r := api.Rule{Allow: source.Intn(2) == 0, Pattern: pattern}
		if source.Intn(3) == 0 {
			r.Priority = source.Intn(5) - 2
		}
		if source.Intn(3) == 0 {
			r.Port = 80 + source.Intn(3)
		}
		if source.Intn(3) == 0 {
			r.Alpn = []string{"h2", "x", "H2"}[source.Intn(3)]
		}
		out[i] = r
	}
	return out
}

// hosts are hosts of such labels, and others.
func hosts(source *rand.Rand, n int) []string {
	pieces := []string{"a", "b", "c", "1a", ".", ".", ".", ".", "A", "*"}
	out := []string{"", "a", ".a", "1.2.3.4", "::1", "0::1", "x.1.2.3.4", "*"}
	for range n {
		var b strings.Builder
		for range source.Intn(12) {
			b.WriteString(pieces[source.Intn(len(pieces))])
		}
		out = append(out, b.String(), strings.Trim(strings.ReplaceAll(b.String(), "..", "."), "."))
	}
	return out
}

// TestMade holds made tries against the second opinion, rule by rule.
func TestMade(t *testing.T) {
	source := rand.New(rand.NewSource(18))
	for range 300 {
		x := trie.New()
		var l []api.Rule
		for _, r := range rules(source, 1+source.Intn(40)) {
			want := addOpinion(l, r)
			added(t, x, r, want)
			if want == api.OK {
				l = append(l, r)
			}
		}
		holds(t, x, l...)
		for _, host := range hosts(source, 60) {
			port := 79 + source.Intn(5)
			alpn := []string{"h2", "x", "H2", ""}[source.Intn(3):][:source.Intn(2)]
			found(t, x, findOpinion(l, host, port, alpn), host, port, alpn...)
		}
		holds(t, x, l...)
	}
}

// TestNoneCountsMore says of what is found what follows from it.
func TestNoneCountsMore(t *testing.T) {
	source := rand.New(rand.NewSource(19))
	for range 100 {
		x := trie.New()
		for _, r := range rules(source, 60) {
			x.Add(r)
		}
		l := x.Rules()
		for _, host := range hosts(source, 40) {
			alpn := []string{"h2"}
			r, at, is := x.Find(host, 80, alpn)
			if is && (r != l[at] || !trie.Matches(r.Pattern, host) || !counts(r, host, 80, alpn)) {
				t.Errorf("Find(%q): %v at %d, which does not match", host, r, at)
			}
			for i, other := range l {
				if !trie.Matches(other.Pattern, host) || !counts(other, host, 80, alpn) {
					continue
				}
				a, b := []int{other.Priority, weight(other.Pattern), -i}, []int{r.Priority, weight(r.Pattern), -at}
				if !is || slices.Compare(a, b) > 0 {
					t.Errorf("Find(%q): %v at %d, though %v at %d counts more", host, r, at, other, i)
				}
			}
		}
	}
}

// TestOrderDoesNotCount has tries with the same rules in other orders, which find the same, where no two weigh as much.
func TestOrderDoesNotCount(t *testing.T) {
	l := []api.Rule{{Pattern: "*"}, {Pattern: "*.a"}, {Pattern: "a"}, {Pattern: "*.b.a", Priority: 1}, {Pattern: "b.a"}, {Pattern: "*", Priority: 2, Port: 80}, {Pattern: "1.2.3.4"}}
	source := rand.New(rand.NewSource(20))
	first := made(t, l...)
	for range 50 {
		turned := slices.Clone(l)
		source.Shuffle(len(turned), func(i, j int) { turned[i], turned[j] = turned[j], turned[i] })
		x := made(t, turned...)
		for _, host := range hosts(source, 30) {
			for _, port := range []int{1, 80} {
				want, _, _ := first.Find(host, port, nil)
				if got, at, is := x.Find(host, port, nil); got != want || !is || turned[at] != want {
					t.Errorf("Find(%q, %d): %v, not %v", host, port, got, want)
				}
			}
		}
	}
}

// P18.4, W6

// text is a text that may be written to.
func text(s string) (string, []byte) {
	b := []byte(s)
	return unsafe.String(unsafe.SliceData(b), len(b)), b
}

// TestNotKept spoils what was handed in.
func TestNotKept(t *testing.T) {
	x := trie.New()
	want := []api.Rule{{Pattern: "*.a.b", Alpn: "h2"}, {Pattern: "a.b", Alpn: "h2"}, {Pattern: "1.2.3.4", Alpn: "h2"}}
	for _, r := range want {
		pattern, b := text(r.Pattern)
		alpn, c := text("h2")
		added(t, x, api.Rule{Pattern: pattern, Alpn: alpn}, api.OK)
		if string(b) != r.Pattern || string(c) != "h2" {
			t.Errorf("what was handed in became %q, %q", b, c)
		}
		copy(b, "zzzzzzz")
		copy(c, "zz")
	}
	holds(t, x, want...)
	for i, host := range []string{"x.a.b", "a.b", "1.2.3.4"} {
		found(t, x, i, host, 1, "h2")
		given, b := text(host)
		alpn, c := text("h2")
		r, _, _ := x.Find(given, 1, []string{alpn})
		copy(b, "zzzzzzz")
		copy(c, "zz")
		if r != want[i] {
			t.Errorf("Find: %v, not %v", r, want[i])
		}
		added(t, x, want[i], api.ErrTwice)
		found(t, x, i, host, 1, "h2")
	}
}

// bytesOf is the memory of s.
func bytesOf(s string) []byte { return unsafe.Slice(unsafe.StringData(s), len(s)) }

// TestNewMemory spoils what was answered, spare room too.
func TestNewMemory(t *testing.T) {
	l := []api.Rule{{Pattern: "*.a.b", Alpn: "h2"}, {Pattern: "a.b", Alpn: "h2"}, {Pattern: "*", Priority: -1}}
	x := made(t, l...)
	spoil := func(r api.Rule) {
		copy(bytesOf(r.Pattern), "zzzzz")
		copy(bytesOf(r.Alpn), "zz")
	}
	for range 2 {
		for _, host := range []string{"x.a.b", "a.b", "c"} {
			r, _, _ := x.Find(host, 1, []string{"h2"})
			spoil(r)
			holds(t, x, l...)
		}
		all := x.Rules()
		for _, r := range all {
			spoil(r)
		}
		all = append(all, api.Rule{Pattern: "z"})
		clear(all[:cap(all)])
		holds(t, x, l...)
		for i, host := range []string{"x.a.b", "a.b", "c"} {
			found(t, x, i, host, 1, "h2")
			added(t, x, l[i], api.ErrTwice)
		}
	}
	one, two := x.Rules(), x.Rules()
	spoil(one[0])
	if two[0] != l[0] {
		t.Errorf("two lists share memory: %v", two)
	}
}

// TestAnsweredStays has answers from ahead of changes, which stay as they were.
func TestAnsweredStays(t *testing.T) {
	x := made(t, deny("*.a"))
	all := x.Rules()
	r, _, _ := x.Find("x.a", 1, nil)
	added(t, x, deny("x.a"), api.OK)
	if len(all) != 1 || all[0] != deny("*.a") || r != deny("*.a") {
		t.Errorf("%v, %v", all, r)
	}
	holds(t, x, deny("*.a"), deny("x.a"))
}

// W1: great texts and lists end, and are told right.

func TestGreat(t *testing.T) {
	const n = 1 << 21
	isNone(t, row(n), strings.Repeat(".", n), "*."+strings.Repeat("a.", n), strings.Repeat("*", n), strings.Repeat(":", n), strings.Repeat("\xff", n))
	right(t, api.Rule{Pattern: "*", Alpn: row(n)}, api.ErrArg)
	x := made(t, deny("*"), deny("*.a"), deny("a"))
	found(t, x, 0, row(n), 1)
	found(t, x, 0, strings.Repeat(".", n), 1)
	found(t, x, 0, strings.Repeat("a.", n), 1)
	found(t, x, 1, strings.Repeat("a.", n)+"a", 1)
	found(t, x, 1, strings.Repeat(".", n)+"a", 1)
	found(t, x, 0, strings.Repeat(":", n), 1)
	many := slices.Repeat([]string{"h2"}, n)
	y := trie.New()
	for i := range 200 {
		added(t, y, api.Rule{Pattern: "*", Alpn: row(i + 3)}, api.OK)
	}
	found(t, y, -1, "a", 1, many...)
	found(t, y, 7, "a", 1, append(many, row(10))...)
}

// FuzzFind plays a script of rules, a line each, and looks for a host in them.
func FuzzFind(f *testing.F) {
	f.Add("*\n*.a.b", "x.a.b", uint16(80), "h2", int16(0))
	f.Add("a.b\n*.b\n1.2.3.4\n::1\nA\n\n*.\nb", "a.b", uint16(1), "", int16(3))
	f.Add("*.b\n*.b\n*.a-b\n_.a", "1.2.3.4", uint16(0), "x y", int16(-1))
	f.Fuzz(func(t *testing.T, script, host string, port uint16, alpn string, step int16) {
		x := trie.New()
		var l []api.Rule
		for i, pattern := range strings.Split(script, "\n") {
			r := api.Rule{Allow: i%2 == 0, Pattern: pattern, Priority: i * int(step) % 3, Port: i % 4 / 3 * int(port)}
			if i%5 == 4 {
				r.Alpn = alpn
			}
			want := addOpinion(l, r)
			right(t, r, rightOpinion(r))
			added(t, x, r, want)
			if want == api.OK {
				l = append(l, r)
			}
			for _, host := range []string{host, pattern, "." + pattern, host + strings.TrimPrefix(pattern, "*")} {
				matches(t, pattern, host, matchOpinion(pattern, host))
				found(t, x, findOpinion(l, host, int(port), []string{alpn}), host, int(port), alpn)
				found(t, x, findOpinion(l, host, i, nil), host, i)
			}
		}
		holds(t, x, l...)
	})
}
