package authority_test

import (
	"fmt"
	"math/rand"
	"net/netip"
	"regexp"
	"slices"
	"strconv"
	"strings"
	"testing"
	"unsafe"

	"hagioscope/addr"
	"hagioscope/api"
	"hagioscope/authority"
)

var (
	mayForm  = regexp.MustCompile(`^[\x21-\x3f\x41-\x7e]+$`)
	openForm = regexp.MustCompile(`^\[([^\]]*)\]([\x00-\xff]*)$`)
	restForm = regexp.MustCompile(`^(:[\x00-\xff]*)?$`)
	portForm = regexp.MustCompile(`^:([1-9][0-9]{0,4})$`)

	targetForm = regexp.MustCompile(`^[hH][tT][tT][pP]://([^/?#]*)`)
)

// printed is a second opinion on an address's one text.
func printed(s string) (string, bool) {
	a, err := netip.ParseAddr(s)
	if err != nil || !strings.Contains(s, ":") || a.Zone() != "" {
		return "", false
	}
	return a.Unmap().String(), true
}

// opinion is a second opinion on texts.
func opinion(s string) (string, int, api.Errno) {
	if s == "" || s[0] == ':' {
		return "", 0, api.ErrNone
	}
	if !mayForm.MatchString(s) {
		return "", 0, api.ErrForm
	}
	host, rest := s, ""
	if s[0] == '[' {
		parts := openForm.FindStringSubmatch(s)
		if parts == nil {
			return "", 0, api.ErrForm
		}
		text, ok := printed(parts[1])
		if !ok || !restForm.MatchString(parts[2]) {
			return "", 0, api.ErrForm
		}
		host, rest = text, parts[2]
	} else if at := strings.IndexByte(s, ':'); at >= 0 {
		host, rest = s[:at], s[at:]
	}
	if rest == "" {
		return host, 0, api.OK
	}
	parts := portForm.FindStringSubmatch(rest)
	if parts == nil {
		return "", 0, api.ErrPort
	}
	port, _ := strconv.ParseUint(parts[1], 10, 64)
	if port > 65535 {
		return "", 0, api.ErrPort
	}
	return host, int(port), api.OK
}

// printOpinion is a second opinion on what is printed, which looks at both parts.
func printOpinion(host string, port int) (string, bool) {
	if port < 0 || port > 65535 || !mayForm.MatchString(host) || host[0] == '[' {
		return "", false
	}
	text := host
	if strings.Contains(host, ":") {
		if one, ok := printed(host); !ok || one != host {
			return "", false
		}
		text = "[" + host + "]"
	}
	if port > 0 {
		text = fmt.Sprintf("%s:%d", text, port)
	}
	return text, true
}

// ofOpinion is a second opinion on whom a request is for.
func ofOpinion(r api.Request, l []api.Field) (string, int, api.Errno) {
	if r.Method == "CONNECT" {
		return "", 0, api.ErrMethod
	}
	var texts []string
	for _, f := range l {
		if f.Name == "host" {
			texts = append(texts, f.Text)
		}
	}
	parts := targetForm.FindStringSubmatch(r.Target)
	switch {
	case parts != nil && len(texts) > 1:
		return "", 0, api.ErrTwice
	case parts != nil:
		return opinion(parts[1])
	case r.Target != "*" && !strings.HasPrefix(r.Target, "/"):
		return "", 0, api.ErrForm
	case len(texts) == 0:
		return "", 0, api.ErrNone
	case len(texts) > 1:
		return "", 0, api.ErrTwice
	}
	return opinion(texts[0])
}

// parses fails if s isn't told as it should be; or, if it tells a host, that can't be printed, and parsed as it was.
func parses(t *testing.T, s, host string, port int, fault api.Errno) {
	t.Helper()
	h, p, e := authority.Parse(s)
	if h != host || p != port || e != fault {
		t.Errorf("Parse(%.60q): %.60q, %d, %d, not %.60q, %d, %d", s, h, p, e, host, port, fault)
	}
	if fault != api.OK {
		return
	}
	x, ok := authority.Print(host, port)
	if h, p, e := authority.Parse(x); h != host || p != port || e != api.OK || !ok {
		t.Errorf("%.60q: printed as %.60q, %t, and parsed as %.60q, %d, %d", s, x, ok, h, p, e)
	}
}

// refused fails if s is told, or not with that error.
func refused(t *testing.T, fault api.Errno, texts ...string) {
	t.Helper()
	for _, s := range texts {
		parses(t, s, "", 0, fault)
	}
}

// prints fails if host and port aren't printed so; or, if they are, aren't parsed as they were.
func prints(t *testing.T, host string, port int, want string, is bool) {
	t.Helper()
	s, ok := authority.Print(host, port)
	if s != want || ok != is {
		t.Errorf("Print(%.60q, %d): %.60q %t, not %.60q %t", host, port, s, ok, want, is)
	}
	if is {
		parses(t, s, host, port, api.OK)
	}
}

// isFor fails if the request isn't for that host and port, or the list has changed.
func isFor(t *testing.T, r api.Request, l []api.Field, host string, port int, fault api.Errno) {
	t.Helper()
	was := slices.Clone(l)
	if h, p, e := authority.Of(r, l); h != host || p != port || e != fault {
		t.Errorf("Of(%.60q %.60q, %.200q): %.60q, %d, %d, not %.60q, %d, %d", r.Method, r.Target, l, h, p, e, host, port, fault)
	}
	if !slices.Equal(l, was) {
		t.Errorf("Of(%.60q %.60q, %.200q) has changed the list to %.200q", r.Method, r.Target, was, l)
	}
}

// hosts is a list of fields, of the name host those that have these texts, with others between.
func hosts(texts ...string) []api.Field {
	l := []api.Field{{Name: "x", Text: "x:1"}}
	for _, s := range texts {
		l = append(l, api.Field{Name: "host", Text: s}, api.Field{Name: "hosts", Text: s + "y"})
	}
	return l
}

// held holds every call against the second opinions: s as a text, as a host, as a target and as a field's text.
func held(t *testing.T, s string, port int) {
	t.Helper()
	host, told, fault := opinion(s)
	parses(t, s, host, told, fault)
	for _, h := range []string{s, host, strings.Trim(s, "[]")} {
		for _, p := range []int{port, told, 0} {
			want, is := printOpinion(h, p)
			prints(t, h, p, want, is)
		}
	}
	for _, r := range []api.Request{{Method: "GET", Target: "/"}, {Method: "GET", Target: s}, {Method: "GET", Target: "HTTP://" + s}, {Method: s, Target: "*"}, {Method: "CONNECT", Target: s}} {
		for _, l := range [][]api.Field{nil, hosts(s), {{Name: s, Text: "a"}}, hosts("a", s)} {
			host, told, fault := ofOpinion(r, l)
			isFor(t, r, l, host, told, fault)
		}
	}
}

// P13.1

func TestHosts(t *testing.T) {
	for s, want := range map[string]api.Verdict{
		"a":                       {Host: "a"},
		"a.b:80":                  {Host: "a.b", Port: 80},
		"A.B":                     {Host: "A.B"},
		"a.b.":                    {Host: "a.b."},
		"a:1":                     {Host: "a", Port: 1},
		"a:9":                     {Host: "a", Port: 9},
		"a:10":                    {Host: "a", Port: 10},
		"a:65535":                 {Host: "a", Port: 65535},
		"1.2.3.4":                 {Host: "1.2.3.4"},
		"1.2.3.4:9":               {Host: "1.2.3.4", Port: 9},
		"01.2.3.4":                {Host: "01.2.3.4"},
		"256.1.1.1:1":             {Host: "256.1.1.1", Port: 1},
		"a]":                      {Host: "a]"},
		"a]:1":                    {Host: "a]", Port: 1},
		"]:1":                     {Host: "]", Port: 1},
		"a[:1":                    {Host: "a[", Port: 1},
		"a[b]c":                   {Host: "a[b]c"},
		"!\"#$%&'()*+,-./;<=>?^~": {Host: "!\"#$%&'()*+,-./;<=>?^~"},
		"/:8":                     {Host: "/", Port: 8},
		"[0::1]":                  {Host: "::1"},
		"[::]":                    {Host: "::"},
		"[::]:1":                  {Host: "::", Port: 1},
		"[0:0::1]:65535":          {Host: "::1", Port: 65535},
		"[2001:DB8:0:0::A0]":      {Host: "2001:db8::a0"},
		"[1:0:0:0:0:0:0:1]:80":    {Host: "1::1", Port: 80},
		"[::ffff:1.2.3.4]:1":      {Host: "1.2.3.4", Port: 1},
		"[::FFFF:102:304]":        {Host: "1.2.3.4"},
		"[0:0:0:0:0:ffff:0:0]:2":  {Host: "0.0.0.0", Port: 2},
		"[::1.2.3.4]":             {Host: "::102:304"},
	} {
		parses(t, s, want.Host, want.Port, api.OK)
	}
}

func TestNone(t *testing.T) {
	refused(t, api.ErrNone, "", ":", "::", "::1", ":80", ":0", ":x", ": ", ":@", ":a@b", ":[::1]", ":\x00", ":\xff", ":\u00e4")
}

func TestForm(t *testing.T) {
	refused(t, api.ErrForm, " ", " a", "a ", "a b", "\ta", "a:1 ", "a: 1", "a:1\r\n", "a\n", "\x00", "a\x7f", "\xff", "\u00e4.b", "a:\u0661", " :80",
		"@", "u@a", "a@", "@a", "u:p@a:80", "a:80@", "[::1]@", "[::1@]", "a:@")
	refused(t, api.ErrForm, "[", "[a", "[::1", "[::1:80", "[:", "[a:1", "[]", "[]:80", "[]]", "[1.2.3.4]", "[1.2.3.4]:80", "[x]", "[x:y]", "[:]", "[:::]", "[::1%a]", "[::1/64]",
		"[[::1]]", "[[::1]", "[1:2:3:4:5:6:7]", "[1:2:3:4:5:6:7:8:9]", "[::12345]", "[::g]", "[::01.2.3.4]", "[::256.1.1.1]", "[::1:]", "[::]x", "[::1]x", "[::1]80", "[::1]]", "[::1]]:80", "[::1][", "[::1].:80", "[::1]x:80", "[a]b:1")
}

func TestPort(t *testing.T) {
	for _, host := range []string{"a", "a.b", "1.2.3.4", "]", "[::1]", "[::ffff:1.2.3.4]"} {
		for _, digits := range []string{"", "0", "00", "01", "080", "00080", "65536", "65540", "70000", "100000", "655350", "4294967376", "18446744073709551696", "99999999999999999999999", "-1", "+1", "1-", "x", "8x", "x8", "0x50", "1.", "1e1", "80:", ":80", "80:80", "[::1]", "80/", "1,2"} {
			refused(t, api.ErrPort, host+":"+digits)
		}
	}
}

func TestEachPort(t *testing.T) {
	for port := 1; port < 70000; port++ {
		digits := strconv.Itoa(port)
		if port > 65535 {
			refused(t, api.ErrPort, "a:"+digits, "[::1]:"+digits)
			continue
		}
		parses(t, "a:"+digits, "a", port, api.OK)
		parses(t, "[::1]:"+digits, "::1", port, api.OK)
		refused(t, api.ErrPort, "a:0"+digits, "[::1]:0"+digits)
	}
}

// TestFirstError has texts with more than one thing wrong: the first one is told.
func TestFirstError(t *testing.T) {
	starts := map[string]api.Errno{"": api.ErrNone, ":": api.ErrNone, " ": api.ErrForm, "@": api.ErrForm, "[": api.ErrForm, "[x]": api.ErrForm, "[1.2.3.4]": api.ErrForm, "[::1]": api.OK, "a": api.OK, "a]": api.OK}
	ends := map[string]api.Errno{"": api.OK, ":1": api.OK, ":": api.ErrPort, ":0": api.ErrPort, ":65536": api.ErrPort, ":x": api.ErrPort, ": ": api.ErrForm, ":x@": api.ErrForm, ":0\xff": api.ErrForm}
	for start, first := range starts {
		for end, second := range ends {
			switch {
			case first == api.ErrNone:
				refused(t, api.ErrNone, start+end)
			case first == api.ErrForm || second == api.ErrForm:
				refused(t, api.ErrForm, start+end)
			case second == api.ErrPort:
				refused(t, api.ErrPort, start+end)
			default:
				host, port, _ := opinion(start + end)
				parses(t, start+end, host, port, api.OK)
			}
		}
	}
	refused(t, api.ErrForm, "[::1]x:0", "[::1]x:", "[::1]0:65536", "[x]:0", "[x]y:0")
}

func TestEveryByte(t *testing.T) {
	for i := range 256 {
		one := string([]byte{byte(i)})
		for _, s := range []string{one, one + "a", "a" + one, "a" + one + "b", "a" + one + "1", "a:" + one, "a:1" + one, "a:" + one + "1", "[" + one, "[" + one + "]", "[::" + one + "]", "[::1]" + one, "[::1]" + one + "1", "[::1" + one, "\xc3" + one, "a\xe2\x82" + one} {
			held(t, s, i)
		}
		for c := range 256 {
			s := "a" + one + string([]byte{byte(c)})
			host, port, fault := opinion(s)
			parses(t, s, host, port, fault)
		}
	}
}

func TestLengths(t *testing.T) {
	for n := 1; n < 600; n++ {
		host := strings.Repeat("aB.", n)
		parses(t, host, host, 0, api.OK)
		parses(t, host+":80", host, 80, api.OK)
		refused(t, api.ErrPort, host+":", host+":"+host, "a:"+strings.Repeat("1", n+5), "a:"+strings.Repeat("0", n))
		refused(t, api.ErrForm, host+"@", "["+host, "["+host+"]", "["+strings.Repeat(":", n+2)+"]", "[::1]"+host+":1")
		refused(t, api.ErrNone, ":"+host, strings.Repeat(":", n))
	}
}

// P13.2

func TestPrinted(t *testing.T) {
	prints(t, "a", 0, "a", true)
	prints(t, "a.b", 80, "a.b:80", true)
	prints(t, "A.B", 1, "A.B:1", true)
	prints(t, "a", 65535, "a:65535", true)
	prints(t, "1.2.3.4", 0, "1.2.3.4", true)
	prints(t, "1.2.3.4", 9, "1.2.3.4:9", true)
	prints(t, "01.2.3.4", 9, "01.2.3.4:9", true)
	prints(t, "::1", 0, "[::1]", true)
	prints(t, "::1", 80, "[::1]:80", true)
	prints(t, "::", 65535, "[::]:65535", true)
	prints(t, "2001:db8::a0", 443, "[2001:db8::a0]:443", true)
	prints(t, "1:2:3:4:5:6:7:8", 1, "[1:2:3:4:5:6:7:8]:1", true)
	prints(t, "a]", 0, "a]", true)
	prints(t, "]", 5, "]:5", true)
	prints(t, "a[b", 5, "a[b:5", true)
	prints(t, "/?#", 5, "/?#:5", true)
}

func TestPrintedNot(t *testing.T) {
	for _, host := range []string{
		"", " ", "a b", "a ", "\ta", "a\n", "a\x00", "a\x7f", "\u00e4", "\xff", "@", "a@b", "u:p@a",
		":", "a:", ":a", "a:80", "a.b:80", "x:y", ":::", "0::1", "::01", "::A", "0:0:0:0:0:0:0:1", "1::2:0:0:0:3", "1::2:3:4:5:6:7", "::ffff:1.2.3.4", "::ffff:102:304", "::1.2.3.4", "::1]", "::1]:80", "::1%a", "1.2.3.4:9", "::1 ",
		"[", "[]", "[a", "[a]", "[::1", "[::1]", "[::1]:80", "[::1]x", "[1.2.3.4]",
	} {
		for _, port := range []int{0, 1, 80, 65535, 65536, -1, api.MaxInt, api.MinInt} {
			prints(t, host, port, "", false)
		}
	}
	for _, port := range []int{-1, -80, -65535, 65536, 65616, 1 << 32, 1<<32 + 80, api.MaxInt, api.MinInt, api.MinInt + 80} {
		prints(t, "a", port, "", false)
		prints(t, "::1", port, "", false)
		prints(t, "1.2.3.4", port, "", false)
	}
}

// P13.3

func TestOf(t *testing.T) {
	get := func(target string) api.Request { return api.Request{Method: "GET", Target: target, Minor: 1} }
	for _, target := range []string{"/", "/http://b:1/", "//b:1", "*", "/?a@b"} {
		r := get(target)
		isFor(t, r, hosts("a:81"), "a", 81, api.OK)
		isFor(t, r, hosts("A.b"), "A.b", 0, api.OK)
		isFor(t, r, hosts("[0::1]:5"), "::1", 5, api.OK)
		isFor(t, r, nil, "", 0, api.ErrNone)
		isFor(t, r, []api.Field{}, "", 0, api.ErrNone)
		isFor(t, r, hosts(), "", 0, api.ErrNone)
		isFor(t, r, []api.Field{{Name: "Host", Text: "a"}, {Name: "host ", Text: "b"}, {Text: "c"}}, "", 0, api.ErrNone)
		isFor(t, r, hosts("a", "a"), "", 0, api.ErrTwice)
		isFor(t, r, hosts("", "a"), "", 0, api.ErrTwice)
		isFor(t, r, hosts("a", "a b", "c"), "", 0, api.ErrTwice)
		isFor(t, r, hosts(""), "", 0, api.ErrNone)
		isFor(t, r, hosts(":81"), "", 0, api.ErrNone)
		isFor(t, r, hosts("a b"), "", 0, api.ErrForm)
		isFor(t, r, hosts("a@b"), "", 0, api.ErrForm)
		isFor(t, r, hosts("a:0"), "", 0, api.ErrPort)
		isFor(t, r, hosts("http://a"), "", 0, api.ErrPort)
	}
}

func TestOfAbsolute(t *testing.T) {
	for target, want := range map[string]struct {
		host  string
		port  int
		fault api.Errno
	}{
		"http://x:1/":           {"x", 1, api.OK},
		"HTTP://X":              {"X", 0, api.OK},
		"http://x/a:b@c":        {"x", 0, api.OK},
		"http://x?y:1":          {"x", 0, api.OK},
		"http://x:1#y":          {"x", 1, api.OK},
		"http://[0::1]:80/":     {"::1", 80, api.OK},
		"http://http://x":       {"", 0, api.ErrPort},
		"http://":               {"", 0, api.ErrNone},
		"http:///a":             {"", 0, api.ErrNone},
		"http://:80/":           {"", 0, api.ErrNone},
		"http://u@x/":           {"", 0, api.ErrForm},
		"http://[1.2.3.4]/":     {"", 0, api.ErrForm},
		"http://[::1/":          {"", 0, api.ErrForm},
		"http://x y/":           {"", 0, api.ErrForm},
		"http://x:0/":           {"", 0, api.ErrPort},
		"http://x:65536/":       {"", 0, api.ErrPort},
		"http://x:":             {"", 0, api.ErrPort},
		"http://[::1]/[::2]:80": {"::1", 0, api.OK},
	} {
		for _, method := range []string{"GET", "connect", "CONNECTS", "", "a b"} {
			r := api.Request{Method: method, Target: target}
			for _, l := range [][]api.Field{nil, hosts(), hosts("x"), hosts("a:5"), hosts("a b"), hosts(""), {{Name: "Host", Text: "a"}, {Name: "Host", Text: "a"}}} {
				isFor(t, r, l, want.host, want.port, want.fault)
			}
			for _, l := range [][]api.Field{hosts("x", "x"), hosts("", ""), hosts("a b", "c", "d")} {
				isFor(t, r, l, "", 0, api.ErrTwice)
			}
		}
	}
}

func TestOfNone(t *testing.T) {
	lists := [][]api.Field{nil, hosts(), hosts("a:81"), hosts("a", "b"), hosts(""), hosts("a:0"), hosts("a b")}
	for _, target := range []string{"", "q", "a:1", "https://x/", "http:/x", "http:x", "http//x", "**", "*/", " /", "?", "x/", "ftp://x", "\xff"} {
		for _, l := range lists {
			isFor(t, api.Request{Method: "GET", Target: target}, l, "", 0, api.ErrForm)
		}
	}
	for _, target := range []string{"", "a:1", "/", "*", "http://x/", "q", "a:0"} {
		for _, l := range lists {
			isFor(t, api.Request{Method: "CONNECT", Target: target, Minor: 1}, l, "", 0, api.ErrMethod)
		}
	}
}

// P13.4

// TestThereAndBack prints hosts made of their parts, and parses them, and the other way round.
func TestThereAndBack(t *testing.T) {
	source := rand.New(rand.NewSource(13))
	for range 4000 {
		name := make([]byte, 1+source.Intn(40))
		for i := range name {
			for name[i] = ':'; name[i] == ':' || name[i] == '@' || name[i] == '[' && i == 0; {
				name[i] = byte('!' + source.Intn('~'-'!'+1))
			}
		}
		var a api.Addr
		for i := range a {
			a[i] = byte(source.Intn(256) * source.Intn(2))
		}
		port := source.Intn(65536)
		for _, host := range []string{string(name), addr.Print(a), addr.Print(addr.Of4([4]byte(a[:4])))} {
			want, _ := printOpinion(host, port)
			prints(t, host, port, want, true)
			held(t, want, port)
		}
	}
}

// TestLikely holds rows of likely pieces against the second opinions.
func TestLikely(t *testing.T) {
	source := rand.New(rand.NewSource(13))
	pieces := []string{":", ":", "[", "]", "[", "]", "::", "1", "0", "80", "65535", "a", "A.b", "ffff", "1.2.3.4", "@", " ", "/", "\xff", "http://", "*", "\t"}
	for range 20000 {
		var b strings.Builder
		for range source.Intn(8) {
			b.WriteString(pieces[source.Intn(len(pieces))])
		}
		held(t, b.String(), source.Intn(3)*source.Intn(40000))
	}
}

// TestTurned turns a byte of texts, at each place, into each other, drops it, doubles it, and cuts the texts there.
func TestTurned(t *testing.T) {
	for _, s := range []string{"a.b:80", "[::ffff:1.2.3.4]:1", "[2001:db8::A]"} {
		for i := range len(s) {
			b := []byte(s)
			for c := range 256 {
				b[i] = byte(c)
				held(t, string(b), c)
			}
			held(t, s[:i], 1)
			held(t, s[i:], 1)
			held(t, s[:i]+s[i+1:], 1)
			held(t, s[:i]+s[i:i+1]+s[i:], 1)
		}
	}
}

// W6

// within says whether part lies in the memory of s.
func within(part, s string) bool {
	if part == "" {
		return false
	}
	at, from := uintptr(unsafe.Pointer(unsafe.StringData(part))), uintptr(unsafe.Pointer(unsafe.StringData(s)))
	return at >= from && at < from+uintptr(len(s))
}

func TestMemory(t *testing.T) {
	for _, s := range []string{"a", "a.b", "a.b:80", "1.2.3.4", "[::1]", "[2001:db8::1]:80", "[::ffff:1.2.3.4]", strings.Repeat("a", 5000) + ":1"} {
		host, port, _ := authority.Parse(s)
		if within(host, s) {
			t.Errorf("Parse(%.60q) shares memory", s)
		}
		if p, _ := authority.Print(host, port); within(host, p) {
			t.Errorf("Print of %.60q shares memory with it", s)
		}
		l := hosts(s)
		if found, _, _ := authority.Of(api.Request{Target: "/"}, l); found != host || within(found, l[1].Text) {
			t.Errorf("Of %.60q shares memory with the list", s)
		}
		r := api.Request{Target: "http://" + s + "/"}
		if found, _, _ := authority.Of(r, nil); found != host || within(found, r.Target) {
			t.Errorf("Of %.60q shares memory with the target", s)
		}
	}
}

// W1: great texts and lists end, and are told right.

func TestGreatTexts(t *testing.T) {
	const n = 1 << 21
	colons, letters, groups, opens := strings.Repeat(":", n), strings.Repeat("aB", n/2), strings.Repeat("0:", n/2), strings.Repeat("[", n)
	refused(t, api.ErrNone, colons)
	refused(t, api.ErrForm, opens, opens+"]", "["+colons+"]", "["+groups+"]", "["+groups, "["+letters+"]", letters+"@", letters+" ", "[::1]"+letters)
	refused(t, api.ErrPort, "a"+colons, letters+":"+letters, "a:"+strings.Repeat("1", n), "[::1]"+colons, groups)
	parses(t, letters, letters, 0, api.OK)
	parses(t, letters+":80", letters, 80, api.OK)
	parses(t, "a"+opens, "a"+opens, 0, api.OK)
	prints(t, colons, 80, "", false)
	prints(t, groups, 80, "", false)
	prints(t, opens, 0, "", false)
	prints(t, letters, 80, letters+":80", true)
	l := make([]api.Field, 1<<18)
	isFor(t, api.Request{Target: "/"}, l, "", 0, api.ErrNone)
	l[len(l)-1] = api.Field{Name: "host", Text: letters + ":1"}
	isFor(t, api.Request{Target: "/"}, l, letters, 1, api.OK)
	l[0].Name = "host"
	isFor(t, api.Request{Target: "/"}, l, "", 0, api.ErrTwice)
	isFor(t, api.Request{Target: "http://" + letters}, l[1:], letters, 0, api.OK)
	isFor(t, api.Request{Target: letters}, l, "", 0, api.ErrForm)
}

func FuzzHosts(f *testing.F) {
	for _, s := range []string{"a.b:80", "[0::1]", "[::ffff:1.2.3.4]:1", "[1.2.3.4]", "a]", ":80", "a:08", "u@a", "[::1]x", "", "http://a/"} {
		f.Add(s, 80)
	}
	f.Fuzz(held)
}
