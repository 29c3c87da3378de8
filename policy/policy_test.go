package policy_test

import (
	"math"
	"math/rand"
	"regexp"
	"slices"
	"strconv"
	"strings"
	"testing"
	"unsafe"

	"hagioscope/addr"
	"hagioscope/api"
	"hagioscope/cidr"
	"hagioscope/name"
	"hagioscope/policy"
	"hagioscope/trie"
)

// The forms of lines, without blanks at both ends, and with one between two words.
var (
	blankForm   = regexp.MustCompile(`[ \t]+`)
	commentForm = regexp.MustCompile(`^(?:#|$)`)
	defaultForm = regexp.MustCompile(`^default (allow|deny)$`)
	ruleForm    = regexp.MustCompile(`^(allow|deny) (-?(?:0|[1-9][0-9]{0,17})) ([^ ]+)(?: port (0|[1-9][0-9]{0,17}))?(?: alpn ([^ ]+))?$`)
	pinForm     = regexp.MustCompile(`^pin ([^ ]+) ([^ ]+)(?: until (0|[1-9][0-9]{0,17}))?$`)
)

// within is the number that s tells, if it is from least to most; none is 0.
func within(s string, least, most int) (int, bool) {
	if s == "" {
		return 0, true
	}
	n, err := strconv.Atoi(s)
	return n, err == nil && n >= least && n <= most
}

// lineOpinion is a second opinion on what p is with a line behind it, and whether it is one that may stand there.
func lineOpinion(p *api.Policy, line string) bool {
	line = strings.Trim(blankForm.ReplaceAllString(line, " "), " ")
	if commentForm.MatchString(line) {
		return true
	}
	if m := defaultForm.FindStringSubmatch(line); m != nil {
		p.Allow = m[1] == "allow"
		return true
	}
	if m := ruleForm.FindStringSubmatch(line); m != nil {
		priority, ok := within(m[2], -1000, 1000)
		port, fits := within(m[4], 0, 65535)
		p.Rules = append(p.Rules, api.Rule{Allow: m[1] == "allow", Priority: priority, Pattern: m[3], Port: port, Alpn: m[5]})
		return ok && fits
	}
	if m := pinForm.FindStringSubmatch(line); m != nil {
		c, ok := cidr.Parse(m[2])
		until, fits := within(m[3], 0, 1<<40)
		p.Pins = append(p.Pins, api.Pin{Name: m[1], Cidr: c, Until: until})
		return ok && fits
	}
	return false
}

// parseOpinion is a second opinion on texts, which asks rightOpinion of all that came behind each line.
func parseOpinion(s string) (api.Policy, int, api.Errno) {
	var p api.Policy
	for i, line := range strings.Split(s, "\n") {
		if !lineOpinion(&p, line) {
			return api.Policy{}, i + 1, api.ErrForm
		}
		if e := rightOpinion(p); e != api.OK {
			return api.Policy{}, i + 1, e
		}
	}
	return p, 0, api.OK
}

// rightOpinion is a second opinion on policies.
func rightOpinion(p api.Policy) api.Errno {
	for i, r := range p.Rules {
		x := trie.New()
		for _, ahead := range p.Rules[:i] {
			x.Add(ahead)
		}
		if e := x.Add(r); e != api.OK {
			return e
		}
	}
	if len(p.Pins) >= 201 {
		return api.ErrFull
	}
	for i, x := range p.Pins {
		if e := pinOpinion(p.Pins[:i], x); e != api.OK {
			return e
		}
	}
	return api.OK
}

// pinOpinion is a second opinion on a pin behind others.
func pinOpinion(ahead []api.Pin, x api.Pin) api.Errno {
	if n, e := name.Normal(x.Name); e != api.OK || n != x.Name {
		return api.ErrName
	}
	if x.Cidr != cidr.Of(x.Cidr.Addr, x.Cidr.Bits) || x.Until < 0 || x.Until > 1<<40 {
		return api.ErrArg
	}
	for _, other := range ahead {
		if other.Name == x.Name && other.Cidr == x.Cidr {
			return api.ErrTwice
		}
	}
	return api.OK
}

// printOpinion is a second opinion on the text of a policy.
func printOpinion(p api.Policy) string {
	says := map[bool]string{true: "allow", false: "deny"}
	s := "default " + says[p.Allow] + "\n"
	for _, r := range p.Rules {
		s += says[r.Allow] + " " + strconv.Itoa(r.Priority) + " " + r.Pattern
		if r.Port != 0 {
			s += " port " + strconv.Itoa(r.Port)
		}
		if r.Alpn != "" {
			s += " alpn " + r.Alpn
		}
		s += "\n"
	}
	for _, x := range p.Pins {
		s += "pin " + x.Name + " " + cidr.Print(x.Cidr)
		if x.Until != 0 {
			s += " until " + strconv.Itoa(x.Until)
		}
		s += "\n"
	}
	return s
}

// same says whether two policies are the same: lists without anything in them are.
func same(a, b api.Policy) bool {
	return a.Allow == b.Allow && slices.Equal(a.Rules, b.Rules) && slices.Equal(a.Pins, b.Pins)
}

// parsed fails if Parse of s does not answer p.
func parsed(t *testing.T, s string, p api.Policy) {
	t.Helper()
	if got, n, e := policy.Parse(s); !same(got, p) || n != 0 || e != api.OK {
		t.Fatalf("Parse(%.300q): %.300v, %d, %d, not %.300v", s, got, n, e, p)
	}
}

// refused fails if Parse of s does not answer that line and that error.
func refused(t *testing.T, s string, line int, want api.Errno) {
	t.Helper()
	if got, n, e := policy.Parse(s); !same(got, api.Policy{}) || n != line || e != want {
		t.Fatalf("Parse(%.300q): %.300v, %d, %d, not %d, %d", s, got, n, e, line, want)
	}
}

// right fails if Right of p does not answer that.
func right(t *testing.T, p api.Policy, want api.Errno) {
	t.Helper()
	if e := policy.Right(p); e != want {
		t.Fatalf("Right(%.300v): %d, not %d", p, e, want)
	}
}

// prints fails if Print of p does not answer s.
func prints(t *testing.T, p api.Policy, s string) {
	t.Helper()
	if got := policy.Print(p); got != s {
		t.Fatalf("Print(%.300v): %.300q, not %.300q", p, got, s)
	}
}

// ofRules and ofPins are policies of these alone.
func ofRules(l ...api.Rule) api.Policy { return api.Policy{Rules: l} }

func ofPins(l ...api.Pin) api.Policy { return api.Policy{Pins: l} }

// at is the Cidr of a text.
func at(s string) api.Cidr {
	c, ok := cidr.Parse(s)
	if !ok {
		panic(s)
	}
	return c
}

// rules and pins are n of them, no two the same.
func rules(n int) []api.Rule {
	out := make([]api.Rule, n)
	for i := range out {
		out[i] = api.Rule{Pattern: "*", Port: i + 1}
	}
	return out
}

func pins(n int) []api.Pin {
	out := make([]api.Pin, n)
	for i := range out {
		out[i] = api.Pin{Name: "a" + strconv.Itoa(i), Cidr: at("10.0.0.0/8")}
	}
	return out
}

// long is a name of 253 bytes.
func long() string { return strings.Repeat("a.", 126) + "b" }

// P19.1

func TestRightOfNone(t *testing.T) {
	right(t, api.Policy{}, api.OK)
	right(t, api.Policy{Allow: true}, api.OK)
	right(t, api.Policy{Rules: []api.Rule{}, Pins: []api.Pin{}}, api.OK)
}

func TestRightRules(t *testing.T) {
	a := api.Rule{Pattern: "a"}
	right(t, ofRules(a, api.Rule{Pattern: "*.a", Allow: true}, api.Rule{Pattern: "a", Port: 80}, api.Rule{Pattern: "a", Alpn: "h2"}, api.Rule{Pattern: "a", Priority: 1}), api.OK)
	for want, wrong := range map[api.Errno]api.Rule{
		api.ErrArg: {Pattern: "b", Priority: 1001}, api.ErrName: {Pattern: "A"}, api.ErrPort: {Pattern: "b", Port: 65536}, api.ErrTwice: {Pattern: "a", Allow: true},
	} {
		right(t, ofRules(a, wrong), want)
		right(t, ofRules(a, api.Rule{Pattern: "c"}, wrong, api.Rule{}, api.Rule{Pattern: "c"}), want) // not what is behind
		right(t, api.Policy{Allow: true, Rules: []api.Rule{a, wrong}, Pins: make([]api.Pin, 201)}, want)
		right(t, api.Policy{Rules: []api.Rule{a, wrong}, Pins: []api.Pin{{}}}, want)
	}
	right(t, ofRules(api.Rule{Pattern: "b", Alpn: " "}), api.ErrArg)
	right(t, ofRules(api.Rule{}), api.ErrName)
	right(t, ofRules(api.Rule{Pattern: "b", Port: -1}), api.ErrPort)
}

func TestRightFullOfRules(t *testing.T) {
	right(t, ofRules(rules(199)...), api.OK)
	right(t, ofRules(rules(200)...), api.OK)
	right(t, ofRules(rules(201)...), api.ErrFull)
	right(t, ofRules(rules(1000)...), api.ErrFull)
	l := rules(201)
	l[200].Port = 1 // is there already, but it is full
	right(t, ofRules(l...), api.ErrFull)
	l[200].Pattern = "A"
	right(t, ofRules(l...), api.ErrName)
	l[199].Port = 1
	right(t, ofRules(l...), api.ErrTwice)
	right(t, api.Policy{Rules: rules(200), Pins: pins(200)}, api.OK)
}

func TestRightFullOfPins(t *testing.T) {
	right(t, ofPins(pins(199)...), api.OK)
	right(t, ofPins(pins(200)...), api.OK)
	right(t, ofPins(pins(201)...), api.ErrFull)
	right(t, ofPins(pins(1000)...), api.ErrFull)
	right(t, ofPins(make([]api.Pin, 200)...), api.ErrName)
	right(t, ofPins(make([]api.Pin, 201)...), api.ErrFull) // ahead of what is wrong with the first one
	l := pins(201)
	l[1] = l[0]
	right(t, ofPins(l...), api.ErrFull)
	right(t, ofPins(l[:200]...), api.ErrTwice)
	l[1].Until = -1
	right(t, ofPins(l...), api.ErrFull)
	right(t, ofPins(l[:200]...), api.ErrArg)
	right(t, api.Policy{Rules: rules(201), Pins: make([]api.Pin, 201)}, api.ErrFull)
	right(t, api.Policy{Rules: append(rules(7), api.Rule{Pattern: "*", Port: 3}), Pins: make([]api.Pin, 201)}, api.ErrTwice)
}

func TestRightNames(t *testing.T) {
	for _, s := range []string{"a", "a.b", "_x.y-z", "1a", "1.2.3.4", "::1", "2001:db8::a0", "xn--4ca", long(), strings.Repeat("a", 63)} {
		right(t, ofPins(api.Pin{Name: s}), api.OK)
	}
	for _, s := range []string{"", ".", "A", "a.", "a..b", ".a", "-a", "a-", "12", "a.12", "*", "*.a", "a b", "a\n", "0::1", "::A", "::ffff:1.2.3.4", "01.2.3.4", "1.2.3.4.", "[::1]", "a:80", "\xff", "\u00e4", long() + "b", strings.Repeat("a", 64)} {
		right(t, ofPins(api.Pin{Name: s}), api.ErrName)
		right(t, ofPins(api.Pin{Name: s, Cidr: api.Cidr{Bits: -1}, Until: -1}), api.ErrName)
		right(t, ofPins(api.Pin{Name: "a"}, api.Pin{Name: s}, api.Pin{Name: "a"}), api.ErrName)
	}
}

func TestRightCidrs(t *testing.T) {
	for _, s := range []string{"::/0", "0.0.0.0/0", "10.0.0.0/8", "1.2.3.4/32", "::1/128", "2001:db8::/32", "ffff::/16"} {
		right(t, ofPins(api.Pin{Name: "a", Cidr: at(s)}), api.OK)
	}
	one := api.Addr{15: 1}
	for _, c := range []api.Cidr{{Bits: -1}, {Bits: 129}, {Bits: math.MinInt}, {Bits: math.MaxInt}, {Addr: one}, {Addr: one, Bits: 127}, {Addr: one, Bits: 129}, {Addr: addr.Of4([4]byte{10, 1}), Bits: 96 + 8}, {Addr: addr.Of4([4]byte{}), Bits: 32}} {
		right(t, ofPins(api.Pin{Name: "a", Cidr: c}), api.ErrArg)
		right(t, ofPins(api.Pin{Name: "a", Cidr: c}, api.Pin{Name: "a", Cidr: c}), api.ErrArg)
	}
}

func TestRightUntil(t *testing.T) {
	for _, n := range []int{0, 1, 9, 1<<32 + 1, 1<<40 - 1, 1 << 40} {
		right(t, ofPins(api.Pin{Name: "a", Until: n}), api.OK)
	}
	for _, n := range []int{-1, -9, math.MinInt, -1 << 40, 1<<40 + 1, 1 << 41, math.MaxInt} {
		right(t, ofPins(api.Pin{Name: "a", Until: n}), api.ErrArg)
		right(t, ofPins(api.Pin{Name: "a"}, api.Pin{Name: "a", Until: n}), api.ErrArg) // ahead of ErrTwice
	}
}

func TestRightPinsTwice(t *testing.T) {
	a := api.Pin{Name: "a", Cidr: at("10.0.0.0/8")}
	later := a
	later.Until = 7
	for _, l := range [][]api.Pin{{a, a}, {a, later}, {later, a}, {later, later}, {a, {Name: "b"}, later}, {a, later, {}}} {
		right(t, ofPins(l...), api.ErrTwice)
	}
	right(t, ofPins(a, api.Pin{}, later), api.ErrName)
	right(t, ofPins(a, api.Pin{Name: "b", Cidr: a.Cidr}, api.Pin{Name: "a", Cidr: at("10.0.0.0/9")}, api.Pin{Name: "a", Cidr: at("11.0.0.0/8")}, api.Pin{Name: "a"}, api.Pin{Name: "a", Cidr: at("::/8")}), api.OK)
}

// P19.2

func TestParseNone(t *testing.T) {
	for _, s := range []string{"", "\n", "\n\n\n", " ", "\t", " \n\t \t\n  ", "#", "# x", "#allow", "  # default allow", "\t#\xff\x00\r", "##", "#\n#\n \n#a", "# allow 1 a\n", "#\tx\ty"} {
		parsed(t, s, api.Policy{})
	}
}

func TestParseDefault(t *testing.T) {
	for _, s := range []string{"default allow", "default allow\n", "\tdefault \t allow ", "default deny\ndefault allow", "default allow\n#\n\ndefault allow", " default\tallow\t\n"} {
		parsed(t, s, api.Policy{Allow: true})
	}
	for _, s := range []string{"default deny", "default deny\n", "default allow\ndefault deny", "default allow\ndefault allow\ndefault deny\n", "default  deny"} {
		parsed(t, s, api.Policy{})
	}
	parsed(t, "allow 1 a\ndefault allow\npin a ::/0", api.Policy{Allow: true, Rules: []api.Rule{{Allow: true, Priority: 1, Pattern: "a"}}, Pins: []api.Pin{{Name: "a"}}})
}

func TestParseRules(t *testing.T) {
	for s, r := range map[string]api.Rule{
		"allow 0 *":                         {Allow: true, Pattern: "*"},
		"deny 0 *":                          {Pattern: "*"},
		"deny 1000 a":                       {Priority: 1000, Pattern: "a"},
		"deny -1000 a":                      {Priority: -1000, Pattern: "a"},
		"deny -1 *.a.b":                     {Priority: -1, Pattern: "*.a.b"},
		"allow -0 a":                        {Allow: true, Pattern: "a"},
		"deny 1 1.2.3.4":                    {Priority: 1, Pattern: "1.2.3.4"},
		"deny 1 ::1":                        {Priority: 1, Pattern: "::1"},
		"deny 5 *.a port 80":                {Priority: 5, Pattern: "*.a", Port: 80},
		"allow 5 a port 65535":              {Allow: true, Priority: 5, Pattern: "a", Port: 65535},
		"deny 5 a port 0":                   {Priority: 5, Pattern: "a"},
		"deny 5 a alpn h2":                  {Priority: 5, Pattern: "a", Alpn: "h2"},
		"allow 7 a port 443 alpn http/1.1":  {Allow: true, Priority: 7, Pattern: "a", Port: 443, Alpn: "http/1.1"},
		"\t allow\t7  a \tport 1 alpn\tH2 ": {Allow: true, Priority: 7, Pattern: "a", Port: 1, Alpn: "H2"},
		"deny 1 port":                       {Priority: 1, Pattern: "port"},
		"deny 1 alpn alpn alpn":             {Priority: 1, Pattern: "alpn", Alpn: "alpn"},
		"deny 1 port port 7 alpn port":      {Priority: 1, Pattern: "port", Port: 7, Alpn: "port"},
		"deny 1 a alpn #x":                  {Priority: 1, Pattern: "a", Alpn: "#x"},
		"deny 1 a alpn 80":                  {Priority: 1, Pattern: "a", Alpn: "80"},
		"deny 1 pin":                        {Priority: 1, Pattern: "pin"},
	} {
		parsed(t, s, ofRules(r))
		parsed(t, "# x\n\n"+s+"\n", ofRules(r))
		parsed(t, "deny 3 z\n"+s+"\nallow 3 y", ofRules(api.Rule{Priority: 3, Pattern: "z"}, r, api.Rule{Allow: true, Priority: 3, Pattern: "y"}))
	}
	name255 := strings.Repeat("x", 255)
	parsed(t, "deny 1 *."+long()+" alpn "+name255, ofRules(api.Rule{Priority: 1, Pattern: "*." + long(), Alpn: name255}))
}

func TestParsePins(t *testing.T) {
	for s, x := range map[string]api.Pin{
		"pin a ::/0":                            {Name: "a"},
		"pin a.b 10.0.0.0/8":                    {Name: "a.b", Cidr: api.Cidr{Addr: addr.Of4([4]byte{10}), Bits: 104}},
		"pin a 10.1.2.3/8":                      {Name: "a", Cidr: at("10.0.0.0/8")},
		"pin 1.2.3.4 1.2.3.4/32":                {Name: "1.2.3.4", Cidr: at("1.2.3.4/32")},
		"pin ::1 2001:DB8::/32":                 {Name: "::1", Cidr: at("2001:db8::/32")},
		"pin a ::/0 until 0":                    {Name: "a"},
		"pin a ::/0 until 1":                    {Name: "a", Until: 1},
		"pin a ::/128 until 1099511627776":      {Name: "a", Cidr: api.Cidr{Bits: 128}, Until: 1 << 40},
		"\tpin  a\t::/1 until \t 1099511627775": {Name: "a", Cidr: api.Cidr{Bits: 1}, Until: 1<<40 - 1},
		"pin until ::/0 until 8":                {Name: "until", Until: 8},
		"pin pin ::/0":                          {Name: "pin"},
	} {
		parsed(t, s, ofPins(x))
		parsed(t, " \n"+s+" \n#", ofPins(x))
		parsed(t, "pin z ::/0\n"+s+"\npin z ::/1 until 4", ofPins(api.Pin{Name: "z"}, x, api.Pin{Name: "z", Cidr: api.Cidr{Bits: 1}, Until: 4}))
	}
}

// wrongLines are lines that are none of those that may be.
var wrongLines = []string{
	"x", "what", "\x00", "\xff", "\r", "a#", "-", "0", "*", "\u00a0", "\v", "//", ";",
	"default", "default ", "default x", "default Allow", "default DENY", "Default allow", "defaultallow", "default allow x", "default allow deny", "default allow allow", "default allow # x", "default #", "default deny 0", "default allow\r", "default\u00a0allow", "default\vallow",
	"allow", "deny", "allow 1", "deny 1 ", "Allow 1 a", "DENY 1 a", "allow a", "allow a 1", "allow 1a a", "allow x a", "allow + a", "allow - a", "allow - 5 a", "allow +1 a", "allow --1 a", "allow -+1 a", "allow 5- a", "allow 01 a", "allow 00 a", "allow -00 a", "allow -01 a", "allow 1001 a", "allow -1001 a", "allow 1.0 a", "allow 0x1 a", "allow 1e1 a", "allow 1000000000000000000 a", "allow 9223372036854775808 a", "allow -9223372036854775808 a", "allow 18446744073709551617 a", "allow \u0661 a",
	"allow 1 a b", "allow 1 a 80", "allow 1 a #", "allow 1 a # x", "allow 1 a port", "allow 1 a port x", "allow 1 a port -1", "allow 1 a port -0", "allow 1 a port +1", "allow 1 a port 01", "allow 1 a port 00", "allow 1 a port 65536", "allow 1 a port 18446744073709551617", "allow 1 a port 80 80", "allow 1 a port 80 port 80", "allow 1 a Port 80", "allow 1 a port80", "allow 1 a port alpn h2", "allow 1 a port 80 x", "allow 1 a port 80\r",
	"allow 1 a alpn", "allow 1 a port 80 alpn", "allow 1 a alpn h2 x", "allow 1 a alpn h2 port 80", "allow 1 a alpn h2 alpn h2", "allow 1 a ALPN h2", "allow 1 a alpn h2 # x", "allow 1 a port 80 alpn h2 port 80", "allow 1 port 80", "allow 1 a until 7", "allow port 80 a", "allow 1 a\u00a0port 80 x",
	"pin", "pin a", "pin a ", "Pin a ::/0", "pin ::/0", "pin a 1.2.3.4", "pin a ::", "pin a ::/129", "pin a ::/-1", "pin a ::/00", "pin a 1.2.3.4/33", "pin a 1.2.3.4/", "pin a 1.2.3/8", "pin a /8", "pin a ::/0/0", "pin a [::]/0", "pin a ::/0 x", "pin a ::/0 9", "pin a ::/0 #", "pin a ::/ 0", "pin ::/0 a", "pin a b ::/0", "pin a ::/0\r",
	"pin a ::/0 until", "pin a ::/0 until x", "pin a ::/0 until -1", "pin a ::/0 until -0", "pin a ::/0 until 01", "pin a ::/0 until 1099511627777", "pin a ::/0 until 1000000000000000000", "pin a ::/0 until 18446744073709551617", "pin a ::/0 until 1 x", "pin a ::/0 until 1 until 1", "pin a ::/0 Until 1", "pin a ::/0 port 1", "pin a until 1", "pin a ::/0 until 1\r", "pin a ::/0 ::/1",
}

func TestParseWrongLines(t *testing.T) {
	for _, s := range wrongLines {
		refused(t, s, 1, api.ErrForm)
		refused(t, " "+s+"\n", 1, api.ErrForm)
		refused(t, "\n"+s, 2, api.ErrForm)
		refused(t, "default allow\nallow 1 q\npin q ::/0\n# x\n"+s+"\nx\nallow 1 A", 5, api.ErrForm)
	}
}

// TestParseWrongParts has lines of a right form, and of what is no right policy.
func TestParseWrongParts(t *testing.T) {
	long := strings.Repeat("x", 256)
	for s, want := range map[string]api.Errno{
		"allow 1 A": api.ErrName, "allow 1 a.": api.ErrName, "deny 1 **": api.ErrName, "deny 1 #": api.ErrName, "deny 1 a\r": api.ErrName, "deny 1 *.1.2.3.4": api.ErrName, "deny 1 0::1": api.ErrName, "deny 1 80": api.ErrName, "deny 1 a\u00a0b": api.ErrName, "deny 1 \xff": api.ErrName, "deny 1 A alpn \xff": api.ErrName,
		"deny 1 a alpn \xff": api.ErrArg, "deny 1 a alpn h2\r": api.ErrArg, "deny 1 a alpn " + long: api.ErrArg, "deny 1 a alpn \u00a0": api.ErrArg, "deny 1 a alpn \x00": api.ErrArg, "deny 1 a alpn \x7f": api.ErrArg,
		"pin A ::/0": api.ErrName, "pin a. ::/0": api.ErrName, "pin * ::/0": api.ErrName, "pin *.a ::/0": api.ErrName, "pin 0::1 ::/0": api.ErrName, "pin 12 ::/0": api.ErrName, "pin # ::/0": api.ErrName, "pin \xff ::/0 until 3": api.ErrName,
		"deny 2 q": api.ErrTwice, "allow -0 q": api.ErrTwice, "deny 0 q port 0": api.ErrTwice, "allow 2 q": api.ErrTwice, "pin q ::/0": api.ErrTwice, "pin q 0:0::/0 until 9": api.ErrTwice, "pin q 10.9.9.9/8": api.ErrTwice,
	} {
		refused(t, "deny 2 q\ndeny 0 q\npin q ::/0\npin q 10.0.0.0/8 until 5\n"+s, 5, want)
		refused(t, "\n\npin q ::/0\npin q 10.0.0.0/8\n#\ndeny 2 q\nallow -0 q port 0\t\n \t"+s+"\nallow 3 z\nwhat", 8, want)
	}
}

// TestParseNotTwice has rules and pins that differ in something that counts.
func TestParseNotTwice(t *testing.T) {
	s := "deny 1 a\ndeny 2 a\ndeny -1 a\ndeny 1 a port 1\ndeny 1 a alpn x\ndeny 1 a port 1 alpn x\ndeny 1 *.a\npin a ::/0\npin b ::/0\npin a ::/1\npin a 0.0.0.0/0\n"
	p, n, e := policy.Parse(s)
	if len(p.Rules) != 7 || len(p.Pins) != 4 || n != 0 || e != api.OK {
		t.Errorf("%v, %d, %d", p, n, e)
	}
}

// lines are n lines, made of their number.
func lines(n int, made func(i string) string) string {
	var b strings.Builder
	for i := range n {
		b.WriteString(made(strconv.Itoa(i)) + "\n")
	}
	return b.String()
}

func TestParseFull(t *testing.T) {
	rule := func(i string) string { return "deny 1 a port " + i + " alpn x" }
	pin := func(i string) string { return "pin a" + i + " ::/0" }
	fullRules, fullPins := lines(200, rule), lines(200, pin)
	p, n, e := policy.Parse(fullRules + fullPins + "default allow\n#\n")
	if !p.Allow || len(p.Rules) != 200 || len(p.Pins) != 200 || p.Rules[199].Port != 199 || p.Pins[199].Name != "a199" || n != 0 || e != api.OK {
		t.Errorf("%.300v, %d, %d", p, n, e)
	}
	right(t, p, api.OK)
	for s, want := range map[string]api.Errno{
		rule("200"): api.ErrFull, rule("7"): api.ErrFull, "deny 1 A": api.ErrName, "deny 1 a alpn \xff": api.ErrArg, "deny 1 a port 65536": api.ErrForm,
		pin("200"): api.ErrFull, pin("7"): api.ErrFull, "pin A ::/0": api.ErrFull, "pin a ::": api.ErrForm, "x": api.ErrForm, "default": api.ErrForm,
	} {
		refused(t, fullRules+fullPins+"default allow\n"+s, 402, want)
		refused(t, fullPins+"\n\n"+fullRules+s+"\nwhat", 403, want)
	}
	refused(t, fullRules+rule("200"), 201, api.ErrFull)
	refused(t, fullPins+"#\n"+pin("200"), 202, api.ErrFull)
	refused(t, lines(201, rule), 201, api.ErrFull)
	refused(t, lines(1000, pin), 201, api.ErrFull)
}

// TestParseBlanks has each byte where a blank may stand: two only are blanks, one ends the line.
func TestParseBlanks(t *testing.T) {
	for i := range 256 {
		c := string([]byte{byte(i)})
		for _, s := range []string{"default" + c + "allow", "default allow" + c, c + "default allow"} {
			switch {
			case c == " " || c == "\t" || c == "\n" && s != "default\nallow":
				parsed(t, s, api.Policy{Allow: true})
			case c == "#" && s[0] == '#':
				parsed(t, s, api.Policy{})
			default:
				refused(t, s, 1, api.ErrForm)
			}
		}
	}
}

// TestParseNumbers goes over all numbers around the ends.
func TestParseNumbers(t *testing.T) {
	for n := -1010; n <= 1010; n++ {
		s := "deny " + strconv.Itoa(n) + " a"
		if n < -1000 || n > 1000 {
			refused(t, s, 1, api.ErrForm)
		} else {
			parsed(t, s, ofRules(api.Rule{Priority: n, Pattern: "a"}))
		}
	}
	for n := -3; n <= 65540; n++ {
		s := "deny 0 a port " + strconv.Itoa(n)
		if n < 0 || n > 65535 {
			refused(t, s, 1, api.ErrForm)
		} else {
			parsed(t, s, ofRules(api.Rule{Pattern: "a", Port: n}))
		}
	}
}

// likely is a text of likely words, the same one for the same source; most lines may stand in it.
func likely(source *rand.Rand) string {
	one := func(l ...string) string { return l[source.Intn(len(l))] }
	mostly := func(good, bad []string) string {
		if source.Intn(20) == 0 {
			return one(bad...)
		}
		return one(good...)
	}
	label := func() string {
		return mostly([]string{"a", "b", "a.b", "1.2.3.4", "::1", "port"}, []string{"*", "*.a", "A", "", "#"})
	}
	number := func() string {
		return mostly([]string{"0", "1", "7", "1000"}, []string{"-1", "-0", "-1000", "1001", "65535", "65536", "x", "01", ""})
	}
	behind := func(word string, text func() string) string {
		if source.Intn(3) > 0 {
			return ""
		}
		return " " + word + one(" ", "\t", "  ") + text()
	}
	word := func() string { return mostly([]string{"h2", "x"}, []string{"", "\xff", "alpn"}) }
	var b strings.Builder
	for range 1 + source.Intn(9) {
		b.WriteString(one("", "", "", " ", "\t", "  "))
		switch source.Intn(10) {
		case 0:
			b.WriteString(mostly([]string{"", "#", "# x", "#a"}, []string{"what", "default", "pin", "\r"}))
		case 1:
			b.WriteString("default " + mostly([]string{"allow", "deny"}, []string{"", "x", "Allow"}))
		case 2, 3, 4, 5:
			b.WriteString("pin " + label() + one(" ", "\t") + mostly([]string{"::/0", "10.0.0.0/8", "10.0.0.1/8", "::1/128"}, []string{"::", "x", ""}) + behind("until", number))
		default:
			b.WriteString(one("allow ", "deny ") + one("", "", "-") + number() + " " + one("", "", "*.") + label() + behind("port", number) + behind("alpn", word))
		}
		b.WriteString(mostly([]string{"", "", " ", "\t"}, []string{" x", "\r"}) + "\n")
	}
	s := b.String()
	return s[:len(s)-source.Intn(2)]
}

// TestLikely holds likely texts against the second opinions.
func TestLikely(t *testing.T) {
	source := rand.New(rand.NewSource(19))
	counts := map[api.Errno]int{}
	for range 40000 {
		s := likely(source)
		opinions(t, s)
		_, _, e := policy.Parse(s)
		counts[e]++
	}
	for _, e := range []api.Errno{api.OK, api.ErrForm, api.ErrName, api.ErrTwice, api.ErrArg} {
		if counts[e] < 200 {
			t.Errorf("the error %d came only %d times", e, counts[e])
		}
	}
}

// opinions holds s, and what it tells, against the second opinions.
func opinions(t *testing.T, s string) {
	t.Helper()
	p, n, e := parseOpinion(s)
	if e != api.OK {
		refused(t, s, n, e)
		return
	}
	parsed(t, s, p)
	right(t, p, api.OK)
	text := printOpinion(p)
	prints(t, p, text)
	parsed(t, text, p)
}

// P19.3

func TestPrint(t *testing.T) {
	prints(t, api.Policy{}, "default deny\n")
	prints(t, api.Policy{Allow: true, Rules: []api.Rule{}}, "default allow\n")
	prints(t, api.Policy{
		Allow: true,
		Rules: []api.Rule{{Pattern: "*"}, {Allow: true, Priority: -7, Pattern: "*.a", Port: 443, Alpn: "h2"}, {Priority: 1000, Pattern: "::1", Alpn: "x"}, {Priority: -1000, Pattern: "1.2.3.4", Port: 65535}},
		Pins:  []api.Pin{{Name: "a"}, {Name: "b", Cidr: at("10.1.0.0/16"), Until: 1 << 40}, {Name: "::1", Cidr: at("2001:db8::/32"), Until: 1}},
	}, "default allow\ndeny 0 *\nallow -7 *.a port 443 alpn h2\ndeny 1000 ::1 alpn x\ndeny -1000 1.2.3.4 port 65535\npin a ::/0\npin b 10.1.0.0/16 until 1099511627776\npin ::1 2001:db8::/32 until 1\n")
}

// TestPrintWrong has policies that are not right, and printed all the same.
func TestPrintWrong(t *testing.T) {
	prints(t, api.Policy{
		Rules: []api.Rule{{Priority: math.MinInt, Pattern: "A b", Port: -1, Alpn: " "}, {Priority: math.MaxInt, Pattern: "a", Port: math.MaxInt}, {Pattern: "a"}, {Pattern: "a"}},
		Pins:  []api.Pin{{Name: "x\ny", Cidr: api.Cidr{Bits: -1}, Until: -5}, {Name: "\xff", Cidr: api.Cidr{Addr: api.Addr{15: 1}, Bits: 3}, Until: math.MinInt}},
	}, "default deny\ndeny -9223372036854775808 A b port -1 alpn  \ndeny 9223372036854775807 a port 9223372036854775807\ndeny 0 a\ndeny 0 a\npin x\ny ::/-1 until -5\npin \xff ::1/3 until -9223372036854775808\n")
	prints(t, api.Policy{Rules: make([]api.Rule, 1), Pins: make([]api.Pin, 1)}, "default deny\ndeny 0 \npin  ::/0\n")
	many := api.Policy{Rules: rules(300), Pins: pins(300)}
	prints(t, many, printOpinion(many))
}

// P19.5

// TestRightIsParsed prints made policies, and parses them: what is right is as it was, what is not is none that is right.
func TestRightIsParsed(t *testing.T) {
	source := rand.New(rand.NewSource(195))
	for range 3000 {
		p := made(source)
		want := rightOpinion(p)
		right(t, p, want)
		prints(t, p, printOpinion(p))
		if want == api.OK {
			parsed(t, policy.Print(p), p)
		}
	}
}

// made is a policy, mostly right, the same one for the same source.
func made(source *rand.Rand) api.Policy {
	p := api.Policy{Allow: source.Intn(2) == 0}
	names := []string{"a", "b.c", "*", "*.a", "1.2.3.4", "::1", "port", "until", "pin", "x-1._y", long()}
	for range source.Intn(6) {
		r := api.Rule{Allow: source.Intn(2) == 0, Priority: source.Intn(2001) - 1000, Pattern: names[source.Intn(len(names))]}
		if source.Intn(2) == 0 {
			r.Port = source.Intn(65536)
		}
		if source.Intn(2) == 0 {
			r.Alpn = []string{"h2", "#", "port", "~!"}[source.Intn(4)]
		}
		p.Rules = append(p.Rules, r)
	}
	for range source.Intn(6) {
		x := api.Pin{Name: names[source.Intn(len(names))]}
		for x.Name[0] == '*' && source.Intn(20) > 0 {
			x.Name = names[source.Intn(len(names))]
		}
		var a api.Addr
		source.Read(a[:])
		if source.Intn(2) == 0 {
			a = addr.Of4([4]byte(a[:4]))
		}
		x.Cidr = cidr.Of(a, source.Intn(129))
		if source.Intn(30) == 0 {
			x.Cidr.Bits -= 3
		}
		if source.Intn(2) == 0 {
			x.Until = source.Intn(1<<40 + 1)
		}
		p.Pins = append(p.Pins, x)
		if source.Intn(20) == 0 {
			p.Pins = append(p.Pins, x)
		}
	}
	return p
}

// P19.4, W6

// whole is a text of a policy with all that a policy may have.
const whole = "default allow\nallow -7 *.a port 443 alpn h2\ndeny 7 b\npin a.b 10.0.0.0/8 until 9\npin a.b ::/0\n"

// TestNotKept spoils the text that was parsed.
func TestNotKept(t *testing.T) {
	b := []byte(whole)
	p, _, _ := policy.Parse(unsafe.String(unsafe.SliceData(b), len(b)))
	if string(b) != whole {
		t.Errorf("what was handed in became %q", b)
	}
	for i := range b {
		b[i] = 'z'
	}
	prints(t, p, whole)
}

// spoil writes into all memory of p, spare room too.
func spoil(p api.Policy) {
	write := func(s string) {
		for i, b := 0, unsafe.Slice(unsafe.StringData(s), len(s)); i < len(b); i++ {
			b[i] = 'z'
		}
	}
	for _, r := range p.Rules {
		write(r.Pattern)
		write(r.Alpn)
	}
	for _, x := range p.Pins {
		write(x.Name)
	}
	l, m := p.Rules[:cap(p.Rules)], p.Pins[:cap(p.Pins)]
	clear(l)
	clear(m)
}

// TestNewMemory spoils what was answered.
func TestNewMemory(t *testing.T) {
	text := strings.Clone(whole)
	p, _, _ := policy.Parse(text)
	q, _, _ := policy.Parse(text)
	printed := policy.Print(p)
	spoil(p)
	if text != whole || printed != whole {
		t.Errorf("%q, %q", text, printed)
	}
	prints(t, q, whole)
	parsed(t, text, q)
	b := unsafe.Slice(unsafe.StringData(printed), len(printed))
	for i := range b {
		b[i] = 'z'
	}
	prints(t, q, whole)
	q2, _, _ := policy.Parse(whole)
	for i := range q.Pins { // texts of one answer share no memory either
		if i > 0 && unsafe.StringData(q2.Pins[0].Name) == unsafe.StringData(q2.Pins[i].Name) {
			t.Error("two names share memory")
		}
	}
}

// TestNotChanged has a policy with spare room, which Right and Print leave as it is.
func TestNotChanged(t *testing.T) {
	rules := []api.Rule{{Pattern: "a"}, {Pattern: "b", Port: 7}, {Pattern: "spare"}}
	pins := []api.Pin{{Name: "a", Until: 4}, {Name: "b"}, {Name: "spare", Until: 5}}
	keptRules, keptPins := slices.Clone(rules), slices.Clone(pins)
	p := api.Policy{Rules: rules[:2], Pins: pins[:2]}
	right(t, p, api.OK)
	prints(t, p, "default deny\ndeny 0 a\ndeny 0 b port 7\npin a ::/0 until 4\npin b ::/0\n")
	if !slices.Equal(rules, keptRules) || !slices.Equal(pins, keptPins) {
		t.Errorf("%v, %v", rules, pins)
	}
}

// TestAgain asks the same again: nothing is kept from call to call.
func TestAgain(t *testing.T) {
	p, _, _ := policy.Parse(whole)
	for range 20 {
		parsed(t, whole, p)
		refused(t, whole+"x", 6, api.ErrForm)
		refused(t, whole+"deny 7 b", 6, api.ErrTwice)
		right(t, p, api.OK)
		prints(t, p, whole)
	}
}

// W1: great texts and lists end, and are told right.

func TestGreat(t *testing.T) {
	const n = 1 << 21
	parsed(t, strings.Repeat("\n", n), api.Policy{})
	parsed(t, strings.Repeat("#\n", n)+"default allow", api.Policy{Allow: true})
	parsed(t, strings.Repeat(" \t", n)+"default"+strings.Repeat(" ", n)+"deny"+strings.Repeat("\t", n), api.Policy{})
	parsed(t, "#"+strings.Repeat(" x", n), api.Policy{})
	parsed(t, strings.Repeat("default allow\n", n>>2), api.Policy{Allow: true})
	refused(t, strings.Repeat("\n", n)+"x", n+1, api.ErrForm)
	refused(t, strings.Repeat("x", n), 1, api.ErrForm)
	refused(t, strings.Repeat("x ", n), 1, api.ErrForm)
	refused(t, "allow"+strings.Repeat(" 1", n), 1, api.ErrForm)
	refused(t, "allow "+strings.Repeat("1", n)+" a", 1, api.ErrForm)
	refused(t, "deny 1 "+strings.Repeat("a.", n)+"a", 1, api.ErrName)
	refused(t, "deny 1 a alpn "+strings.Repeat("a", n), 1, api.ErrArg)
	refused(t, "pin "+strings.Repeat("a", n)+" ::/0", 1, api.ErrName)
	refused(t, "pin a "+strings.Repeat(":", n)+"/0", 1, api.ErrForm)
	right(t, ofRules(rules(n>>4)...), api.ErrFull)
	right(t, ofPins(make([]api.Pin, n)...), api.ErrFull)
	right(t, ofPins(api.Pin{Name: strings.Repeat(".", n)}), api.ErrName)
	great := strings.Repeat("a", n)
	prints(t, api.Policy{Rules: []api.Rule{{Pattern: great, Alpn: great}}, Pins: []api.Pin{{Name: great}}}, "default deny\ndeny 0 "+great+" alpn "+great+"\npin "+great+" ::/0\n")
}

// FuzzTexts holds made-up texts against the second opinions.
func FuzzTexts(f *testing.F) {
	f.Add(whole)
	f.Add("\n # x\n default  allow\ndefault deny\n\tdeny 0 b\npin a.b ::/0 until 9")
	for _, s := range wrongLines {
		f.Add("deny 1 q\n" + s)
	}
	f.Fuzz(func(t *testing.T, s string) { opinions(t, s) })
}
