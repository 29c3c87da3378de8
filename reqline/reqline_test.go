package reqline_test

import (
	"fmt"
	"math"
	"math/rand"
	"regexp"
	"strconv"
	"strings"
	"testing"
	"unsafe"

	"hagioscope/api"
	"hagioscope/reqline"
)

var (
	tokenForm     = regexp.MustCompile("^[A-Za-z0-9!#$%&'*+.^_`|~-]+$")
	visibleForm   = regexp.MustCompile(`^[!-~]+$`)
	authorityForm = regexp.MustCompile(`(?s)^[Hh][Tt][Tt][Pp]://([^/?#]*)`)
)

// lineOpinion is a second opinion on lines, which splits them.
func lineOpinion(s string) (api.Request, api.Errno) {
	parts := strings.Split(s, " ")
	if len(parts) != 3 {
		return api.Request{}, api.ErrForm
	}
	if !tokenForm.MatchString(parts[0]) || len(parts[0]) > 32 {
		return api.Request{}, api.ErrMethod
	}
	if !visibleForm.MatchString(parts[1]) {
		return api.Request{}, api.ErrForm
	}
	if len(parts[1]) > 8000 {
		return api.Request{}, api.ErrLength
	}
	minor, known := map[string]int{"HTTP/1.0": 0, "HTTP/1.1": 1}[parts[2]]
	if !known {
		return api.Request{}, api.ErrVersion
	}
	return api.Request{Method: parts[0], Target: parts[1], Minor: minor}, api.OK
}

// printOpinion is a second opinion on what is printed, which asks the one on lines.
func printOpinion(r api.Request) (string, bool) {
	for minor := range 2 {
		s := strings.Join([]string{r.Method, r.Target, "HTTP/1." + strconv.Itoa(minor)}, " ")
		if told, e := lineOpinion(s); e == api.OK && told == r {
			return s, true
		}
	}
	return "", false
}

// authorityOpinion is a second opinion on authorities.
func authorityOpinion(target string) (string, bool) {
	if m := authorityForm.FindStringSubmatch(target); m != nil {
		return m[1], true
	}
	return "", false
}

// formOpinion is a second opinion on forms.
func formOpinion(r api.Request) int {
	if r.Method == "CONNECT" {
		return 4
	}
	if r.Target == "*" {
		return 3
	}
	if r.Target != "" && r.Target[0] == '/' {
		return 1
	}
	if _, ok := authorityOpinion(r.Target); ok {
		return 2
	}
	return 0
}

// brief is r as a failure tells it.
func brief(r api.Request) string { return fmt.Sprintf("{%.60q %.60q %d}", r.Method, r.Target, r.Minor) }

// parses fails if s isn't told as it should be, or, if it is a line, isn't printed as it was.
func parses(t *testing.T, s string, want api.Request, fault api.Errno) {
	t.Helper()
	r, e := reqline.Parse(s)
	if r != want || e != fault {
		t.Errorf("Parse(%.60q): %s, %d, not %s, %d", s, brief(r), e, brief(want), fault)
	}
	if fault != api.OK {
		return
	}
	if p, ok := reqline.Print(r); p != s || !ok {
		t.Errorf("%.60q: parsed, and printed as %.60q %t", s, p, ok)
	}
}

// refused fails if s is told as a request, or not with that error.
func refused(t *testing.T, s string, fault api.Errno) {
	t.Helper()
	parses(t, s, api.Request{}, fault)
}

// prints fails if r isn't printed so; or, if it is, isn't parsed as it was.
func prints(t *testing.T, r api.Request, want string, is bool) {
	t.Helper()
	s, ok := reqline.Print(r)
	if s != want || ok != is {
		t.Errorf("Print(%s): %.60q %t, not %.60q %t", brief(r), s, ok, want, is)
	}
	if !is {
		return
	}
	if told, e := reqline.Parse(s); told != r || e != api.OK {
		t.Errorf("%.60q: printed, and parsed as %s, %d", s, brief(told), e)
	}
}

// authority fails if that of target isn't told so.
func authority(t *testing.T, target, want string, is bool) {
	t.Helper()
	if s, ok := reqline.Authority(target); s != want || ok != is {
		t.Errorf("Authority(%.60q): %.60q %t, not %.60q %t", target, s, ok, want, is)
	}
}

// form fails if that of the request isn't told so, with either Minor, and others.
func form(t *testing.T, method, target string, want int) {
	t.Helper()
	for _, minor := range []int{0, 1, 2, -1, math.MinInt, math.MaxInt} {
		if got := reqline.Form(api.Request{Method: method, Target: target, Minor: minor}); got != want {
			t.Errorf("Form(%.60q %.60q %d): %d, not %d", method, target, minor, got, want)
		}
	}
}

// held holds every call against the second opinions: s as a line, and its parts, or itself, as those of a request.
func held(t *testing.T, s string) {
	t.Helper()
	want, fault := lineOpinion(s)
	parses(t, s, want, fault)
	parts := append(strings.SplitN(s, " ", 3), "", "")
	for _, r := range []api.Request{
		{Method: parts[0], Target: parts[1]},
		{Method: parts[0], Target: parts[1], Minor: len(parts[2])},
		{Method: "GET", Target: s, Minor: 1},
		{Method: s, Target: "/", Minor: 1},
		{Method: s, Target: s},
	} {
		want, is := printOpinion(r)
		prints(t, r, want, is)
		form(t, r.Method, r.Target, formOpinion(r))
		told, is := authorityOpinion(r.Target)
		authority(t, r.Target, told, is)
	}
}

// P11.1

func TestLinesRead(t *testing.T) {
	for s, want := range map[string]api.Request{
		"GET / HTTP/1.1":                               {Method: "GET", Target: "/", Minor: 1},
		"GET / HTTP/1.0":                               {Method: "GET", Target: "/"},
		"get * HTTP/1.1":                               {Method: "get", Target: "*", Minor: 1},
		"CONNECT a.b:443 HTTP/1.1":                     {Method: "CONNECT", Target: "a.b:443", Minor: 1},
		"X-y *? HTTP/1.0":                              {Method: "X-y", Target: "*?"},
		"0 0 HTTP/1.0":                                 {Method: "0", Target: "0"},
		"POST HTTP/1.1 HTTP/1.0":                       {Method: "POST", Target: "HTTP/1.1"},
		"OPTIONS http://a.b:1/c?d#e HTTP/1.1":          {Method: "OPTIONS", Target: "http://a.b:1/c?d#e", Minor: 1},
		"!#$%&'*+-.^_`|~ \"(),/:;<=>?@[\\]{} HTTP/1.1": {Method: "!#$%&'*+-.^_`|~", Target: "\"(),/:;<=>?@[\\]{}", Minor: 1},
	} {
		parses(t, s, want, api.OK)
	}
}

func TestSpaces(t *testing.T) {
	for _, s := range []string{
		"", " ", "   ", "    ", "GET", "GET ", " GET", "GET /", "GET/ HTTP/1.1", "GET /HTTP/1.1", "GET/HTTP/1.1",
		"GET / x HTTP/1.1", "GET  / HTTP/1.1", "GET /  HTTP/1.1", " GET / HTTP/1.1", "GET / HTTP/1.1 ", "GET / HTTP/1.1 x", "GET / HTTP/ 1.1",
		"GET\t/\tHTTP/1.1", "GET\t/ HTTP/1.1", "GET /\tHTTP/1.1", "GET\n/ HTTP/1.1", "GET\u00a0/\u00a0HTTP/1.1", "GET / \tx HTTP/1.1",
	} {
		refused(t, s, api.ErrForm)
	}
	for s, fault := range map[string]api.Errno{
		"  ":                 api.ErrMethod,
		" / HTTP/1.1":        api.ErrMethod,
		"  HTTP/1.1":         api.ErrMethod,
		"GET  HTTP/1.1":      api.ErrForm,
		"GET  ":              api.ErrForm,
		"GET / ":             api.ErrVersion,
		"\tGET / HTTP/1.1":   api.ErrMethod,
		"GET\t / HTTP/1.1":   api.ErrMethod,
		"GET \t/ HTTP/1.1":   api.ErrForm,
		"GET /\t HTTP/1.1":   api.ErrForm,
		"GET \t HTTP/1.1":    api.ErrForm,
		"GET / \tHTTP/1.1":   api.ErrVersion,
		"GET / HTTP/1.1\t":   api.ErrVersion,
		"GET / HTTP/1.1\r":   api.ErrVersion,
		"GET / HTTP/1.1\r\n": api.ErrVersion,
	} {
		refused(t, s, fault)
	}
}

func TestEveryByte(t *testing.T) {
	for i := range 256 {
		one := string([]byte{byte(i)})
		for _, part := range []string{one, one + "a", "a" + one, "a" + one + "a"} {
			held(t, part+" / HTTP/1.1")
			held(t, "GET "+part+" HTTP/1.0")
			held(t, "GET / "+part)
			held(t, "GET / HTTP/1.1"+one)
			held(t, "GET / HTTP/1."+one)
		}
	}
}

func TestRunes(t *testing.T) {
	for _, odd := range []string{"\u00c4", "\u0141", "\u212a", "\ufffd", "\uff27", "\u0120", "\U00010041", "\xc1\x81", "\xe2\x84", "\xff"} {
		for _, part := range []string{odd, "a" + odd, odd + "a"} {
			refused(t, part+" / HTTP/1.1", api.ErrMethod)
			refused(t, "GET "+part+" HTTP/1.1", api.ErrForm)
			refused(t, "GET / "+part, api.ErrVersion)
			refused(t, "GET / HTTP/1.1"+odd, api.ErrVersion)
		}
	}
}

func TestMethodLengths(t *testing.T) {
	for n := 1; n < 100; n++ {
		method := strings.Repeat("A", n-1) + "b"
		if n > 32 {
			refused(t, method+" / HTTP/1.1", api.ErrMethod)
			prints(t, api.Request{Method: method, Target: "/", Minor: 1}, "", false)
			continue
		}
		parses(t, method+" / HTTP/1.1", api.Request{Method: method, Target: "/", Minor: 1}, api.OK)
	}
	refused(t, strings.Repeat("A", 1<<20)+" / HTTP/1.1", api.ErrMethod)
}

func TestTargetLengths(t *testing.T) {
	for _, n := range []int{1, 2, 255, 256, 4096, 7998, 7999, 8000} {
		target := strings.Repeat("/", n-1) + "b"
		parses(t, "GET "+target+" HTTP/1.0", api.Request{Method: "GET", Target: target}, api.OK)
		prints(t, api.Request{Method: "GET", Target: target}, "GET "+target+" HTTP/1.0", true)
	}
	for _, n := range []int{8001, 8002, 8192, 16001, 1<<16 + 1, 1 << 20} {
		target := strings.Repeat("/", n)
		refused(t, "GET "+target+" HTTP/1.0", api.ErrLength)
		prints(t, api.Request{Method: "GET", Target: target}, "", false)
	}
}

func TestVersions(t *testing.T) {
	for _, s := range []string{
		"", "H", "HTTP", "HTTP/", "HTTP/1", "HTTP/1.", "HTTP/1.2", "HTTP/1.9", "HTTP/0.9", "HTTP/0.1", "HTTP/2.0", "HTTP/2", "HTTP/1.01", "HTTP/1.00", "HTTP/1.10", "HTTP/1.11", "HTTP/01.1", "HTTP/1.-1", "HTTP/1.+1",
		"http/1.1", "Http/1.1", "HTTp/1.0", "HTTP/1,1", "HTTP\\1.1", "HTTPS/1.1", "xHTTP/1.1", "HTTP/1.1x", "1.1", "TLS/1.1", "HTTP/1.1HTTP/1.1",
	} {
		refused(t, "GET / "+s, api.ErrVersion)
	}
	for _, whole := range []string{"HTTP/1.0", "HTTP/1.1"} {
		for i := range whole {
			b := []byte(whole)
			for c := range 256 {
				b[i] = byte(c)
				held(t, "GET / "+string(b))
			}
			held(t, "GET / "+whole[:i])
			held(t, "GET / "+whole[i+1:])
		}
	}
}

// TestFirstError puts together parts that are wrong in each way: the first one in the promise's order is told.
func TestFirstError(t *testing.T) {
	long := strings.Repeat("/", 8001)
	methods := map[string]bool{"GET": true, "": false, "G@T": false, strings.Repeat("A", 33): false}
	targets := map[string]api.Errno{"/": api.OK, "": api.ErrForm, "\x01": api.ErrForm, long: api.ErrLength, long + "\x7f": api.ErrForm, "\xff" + long: api.ErrForm}
	lasts := map[string]bool{"HTTP/1.1": true, "": false, "HTTP/1.2": false}
	for method, token := range methods {
		for target, fault := range targets {
			for last, known := range lasts {
				s := method + " " + target + " " + last
				switch {
				case !token:
					refused(t, s, api.ErrMethod)
				case fault != api.OK:
					refused(t, s, fault)
				case !known:
					refused(t, s, api.ErrVersion)
				default:
					parses(t, s, api.Request{Method: method, Target: target, Minor: 1}, api.OK)
				}
				for _, s := range []string{s + " ", " " + s, method + " " + target + last, method + target + last} {
					refused(t, s, api.ErrForm)
				}
			}
		}
	}
}

func TestPrinted(t *testing.T) {
	for want, r := range map[string]api.Request{
		"GET / HTTP/1.1":              {Method: "GET", Target: "/", Minor: 1},
		"GET / HTTP/1.0":              {Method: "GET", Target: "/"},
		"a-b http://A/b?c#d HTTP/1.0": {Method: "a-b", Target: "http://A/b?c#d"},
		"CONNECT * HTTP/1.1":          {Method: "CONNECT", Target: "*", Minor: 1},
	} {
		prints(t, r, want, true)
	}
}

func TestPrintedNot(t *testing.T) {
	prints(t, api.Request{}, "", false)
	for _, minor := range []int{2, 3, 9, 10, 11, 100, 256, 257, 1 << 32, 1<<32 + 1, -1, -2, -256, math.MinInt, math.MinInt + 1, math.MaxInt} {
		prints(t, api.Request{Method: "GET", Target: "/", Minor: minor}, "", false)
	}
	for _, method := range []string{"", " ", "G T", " GET", "GET ", "GET /", "GET / HTTP/1.1", "GET\t", "GET\r\n", "G@T", "\u00c4", "\xff", strings.Repeat("A", 33)} {
		prints(t, api.Request{Method: method, Target: "/", Minor: 1}, "", false)
		prints(t, api.Request{Method: method, Minor: 1}, "", false)
	}
	for _, target := range []string{"", " ", "/ ", " /", "/ /", "/ HTTP/1.1", "/\t", "/\r\n", "/\x00", "/\x7f", "/\u00e4", "/\xff"} {
		prints(t, api.Request{Method: "GET", Target: target, Minor: 1}, "", false)
		prints(t, api.Request{Target: target, Minor: 1}, "", false)
	}
}

// P11.2

func TestForms(t *testing.T) {
	for target, want := range map[string]int{
		"/":         api.FormOrigin,
		"/a":        api.FormOrigin,
		"//":        api.FormOrigin,
		"/*":        api.FormOrigin,
		"/http://a": api.FormOrigin,
		"/ \x00":    api.FormOrigin,
		"*":         api.FormStar,
		"http://a":  api.FormAbsolute,
		"http://":   api.FormAbsolute,
		"HTTP://":   api.FormAbsolute,
		"hTtP://*":  api.FormAbsolute,
		"http:///":  api.FormAbsolute,
		"http://\n": api.FormAbsolute,
		"":          api.FormNone,
		"**":        api.FormNone,
		"*/":        api.FormNone,
		" *":        api.FormNone,
		"* ":        api.FormNone,
		" /":        api.FormNone,
		"a":         api.FormNone,
		"a/":        api.FormNone,
		"a:1":       api.FormNone,
		"http:/a":   api.FormNone,
		"http:":     api.FormNone,
		"http":      api.FormNone,
		"http//a":   api.FormNone,
		"https://a": api.FormNone,
		"ttp://a":   api.FormNone,
		"xhttp://a": api.FormNone,
		" http://a": api.FormNone,
		"ws://a":    api.FormNone,
		"?":         api.FormNone,
		"\\":        api.FormNone,
		"\xff":      api.FormNone,
	} {
		for _, method := range []string{"GET", "OPTIONS", "", " ", "connect", "Connect", "CONNECt", "CONNECTS", "CONNEC", "CONNECT ", " CONNECT", "\xff"} {
			form(t, method, target, want)
		}
		form(t, "CONNECT", target, api.FormAuthority)
	}
}

// P11.3

func TestAuthorities(t *testing.T) {
	for target, want := range map[string]string{
		"http://":              "",
		"http:///":             "",
		"http:////a":           "",
		"http://?":             "",
		"http://#":             "",
		"http://a":             "a",
		"http://a.b:1/c?d":     "a.b:1",
		"http://A.b/":          "A.b",
		"hTTp://a?b/":          "a",
		"HTTP://a#b?c/d":       "a",
		"http://a/b#c?d":       "a",
		"http://a?b#c/d":       "a",
		"http://a@b:c":         "a@b:c",
		"http://[::1]:80/":     "[::1]:80",
		"http://http://a":      "http:",
		"http://a\\b":          "a\\b",
		"http://a b\t\r\n\x00": "a b\t\r\n\x00",
		"http://\u00e4\xff/":   "\u00e4\xff",
		"http://*":             "*",
		"http://%2f;,!&=/":     "%2f;,!&=",
	} {
		authority(t, target, want, true)
	}
	for _, target := range []string{
		"", "h", "http", "http:", "http:/", "http:/a", "http:a//", "http//a", "https://a", "htp://a", "httpp://a", "ttp://a", " http://a", "\thttp://a", "/http://a", "ahttp://a", "http ://a", "http:\\\\a", "http.//a",
		"ftp://a", "//a", "/", "*", "a", "a:80", "a://b", "\u017fhttp://a", "\uff28ttp://a", "http\x1a//a", "http:\x0f/a", "HTTP\x1a\x0f\x0fa",
	} {
		authority(t, target, "", false)
	}
}

// TestSchemes tells the scheme in all letters great and small, and turns a byte of it, at each place, into each other.
func TestSchemes(t *testing.T) {
	for set := range 1 << 4 {
		b := []byte("http://a/b")
		for i := range 4 {
			if set>>i&1 == 1 {
				b[i] -= 'a' - 'A'
			}
		}
		authority(t, string(b), "a", true)
		form(t, "GET", string(b), api.FormAbsolute)
	}
	for i := range "http://a/b" {
		b := []byte("http://a/b")
		for c := range 256 {
			b[i] = byte(c)
			want, is := authorityOpinion(string(b))
			authority(t, string(b), want, is)
			form(t, "GET", string(b), formOpinion(api.Request{Target: string(b)}))
		}
	}
}

// TestAuthorityEnds puts each byte, and each two of the ends, behind and within what is told.
func TestAuthorityEnds(t *testing.T) {
	for i := range 256 {
		one := string([]byte{byte(i)})
		for _, rest := range []string{one, "a" + one, one + "a", "a" + one + "b", "a" + one + "b" + one} {
			want, is := authorityOpinion("http://" + rest)
			authority(t, "http://"+rest, want, is)
		}
	}
	for _, a := range "/?#" {
		for _, b := range "/?#" {
			authority(t, "http://x"+string(a)+string(b)+"y", "x", true)
			authority(t, "http://x"+string(a)+"y"+string(b), "x", true)
		}
	}
}

// P11.4

// TestThereAndBack prints requests made of their parts, and parses them, and the other way round.
func TestThereAndBack(t *testing.T) {
	source := rand.New(rand.NewSource(11))
	signs := "ABCxyz019!#$%&'*+-.^_`|~"
	for range 3000 {
		method := make([]byte, 1+source.Intn(32))
		for i := range method {
			method[i] = signs[source.Intn(len(signs))]
		}
		target := make([]byte, 1+source.Intn(300))
		for i := range target {
			target[i] = byte('!' + source.Intn('~'-'!'+1))
		}
		r := api.Request{Method: string(method), Target: string(target), Minor: source.Intn(2)}
		s := r.Method + " " + r.Target + " HTTP/1." + strconv.Itoa(r.Minor)
		prints(t, r, s, true)
		parses(t, s, r, api.OK)
		held(t, s)
	}
}

// TestLikely holds rows of likely pieces against the second opinions.
func TestLikely(t *testing.T) {
	source := rand.New(rand.NewSource(11))
	pieces := []string{" ", " ", " ", "GET", "CONNECT", "/", "*", "http://", "HTTP://", "a", "?", "#", ":", "\t", "\x7f", "\xff", " HTTP/1.1", " HTTP/1.0", " HTTP/1.2", "http", "GET / HTTP/1.1"}
	for range 30000 {
		var b strings.Builder
		for range source.Intn(9) {
			b.WriteString(pieces[source.Intn(len(pieces))])
		}
		held(t, b.String())
	}
}

// TestTurned turns a byte of lines, at each place, into each other, drops it, and cuts the lines there.
func TestTurned(t *testing.T) {
	for _, s := range []string{"GET / HTTP/1.1", "CONNECT a:1 HTTP/1.0", "a http://b/c HTTP/1.1"} {
		for i := range s {
			b := []byte(s)
			for c := range 256 {
				b[i] = byte(c)
				held(t, string(b))
			}
			held(t, s[:i])
			held(t, s[i:])
			held(t, s[:i]+s[i+1:])
			held(t, s[:i]+s[i:i+1]+s[i:])
		}
	}
}

// W6

// within says whether part lies in the memory of s.
func within(part, s string) bool {
	at, from := uintptr(unsafe.Pointer(unsafe.StringData(part))), uintptr(unsafe.Pointer(unsafe.StringData(s)))
	return at >= from && at < from+uintptr(len(s))
}

func TestMemory(t *testing.T) {
	for _, s := range []string{"GET / HTTP/1.1", "G /a HTTP/1.0", "CONNECT " + strings.Repeat("a", 8000) + " HTTP/1.1"} {
		r, _ := reqline.Parse(s)
		if within(r.Method, s) || within(r.Target, s) {
			t.Errorf("Parse(%.60q) shares memory with it", s)
		}
		p, _ := reqline.Print(r)
		if within(r.Method, p) || within(r.Target, p) {
			t.Errorf("Print of %.60q shares memory with it", s)
		}
	}
	for _, target := range []string{"http://a", "http://a.b/c", "http://a?"} {
		if a, _ := reqline.Authority(target); within(a, target) {
			t.Errorf("Authority(%q) shares memory with it", target)
		}
	}
}

// W1: great texts end, and are told right.

func TestGreatTexts(t *testing.T) {
	const n = 1 << 22
	spaces, letters := strings.Repeat(" ", n), strings.Repeat("a", n)
	refused(t, spaces, api.ErrForm)
	refused(t, letters, api.ErrForm)
	refused(t, "GET / "+letters, api.ErrVersion)
	refused(t, "GET / HTTP/1.1"+spaces, api.ErrForm)
	prints(t, api.Request{Method: letters, Target: letters, Minor: 1}, "", false)
	authority(t, "http://"+letters, letters, true)
	authority(t, "http://a/"+letters, "a", true)
	authority(t, letters+"http://", "", false)
	form(t, letters, "http://"+letters, api.FormAbsolute)
	form(t, letters, letters, api.FormNone)
}

func FuzzLines(f *testing.F) {
	for _, s := range []string{"GET / HTTP/1.1", "CONNECT a:1 HTTP/1.0", "a http://b/c?d#e HTTP/1.1", "GET  HTTP/1.1", "HTTP://a?b/", "*", "GET / x HTTP/1.2"} {
		f.Add(s)
	}
	f.Fuzz(held)
}
