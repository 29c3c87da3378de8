package httppeek_test

import (
	"fmt"
	"math/rand"
	"strings"
	"testing"
	"unsafe"

	"hagioscope/api"
	"hagioscope/authority"
	"hagioscope/field"
	"hagioscope/httppeek"
	"hagioscope/name"
	"hagioscope/reqline"
)

const (
	end  = "\r\n"
	get  = "GET / HTTP/1.1" + end
	full = "POST /a?b HTTP/1.0" + end + "Accept: */*" + end + "HOST:\tWWW.Example.:8080 " + end + "x:" + end + end
)

// fullVerdict is what full tells.
func fullVerdict() api.Verdict { return done(len(full), "www.example", 8080) }

// numbered is n lines of fields, which differ.
func numbered(n int) string {
	var b strings.Builder
	for i := range n {
		fmt.Fprintf(&b, "x%d: %d%s", i, i, end)
	}
	return b.String()
}

// open, bad and done are verdicts: all that is not named is zero.
func open(used int) api.Verdict {
	return api.Verdict{State: api.PeekOpen, Proto: api.ProtoHttp, Used: used}
}

func bad(used int, reason api.Errno) api.Verdict {
	return api.Verdict{State: api.PeekBad, Proto: api.ProtoHttp, Used: used, Reason: reason}
}

func done(used int, host string, port int) api.Verdict {
	return api.Verdict{State: api.PeekDone, Proto: api.ProtoHttp, Used: used, Host: host, Port: port}
}

// same says whether two verdicts are the same, and tell nothing of a hello.
func same(a, b api.Verdict) bool {
	return a.State == b.State && a.Proto == b.Proto && a.Used == b.Used && a.Reason == b.Reason && a.Host == b.Host && a.Port == b.Port &&
		unseen(a.Seen) && unseen(b.Seen)
}

// unseen says whether s is all zero: lists without anything in them are.
func unseen(s api.Seen) bool {
	return !s.HasName && s.Name == "" && len(s.Alpn) == 0 && len(s.Versions) == 0 && !s.Ech
}

// halved is the place of the first byte of b at which half of a line's end is missing; the length of b, if there is none.
func halved(b string) int {
	for i := range len(b) {
		if (b[i] == '\n') != strings.HasSuffix(b[:i], "\r") {
			return i
		}
	}
	return len(b)
}

// opinion is a second opinion on b: it looks at all ends of lines first, and at the lines then.
func opinion(b string) api.Verdict {
	stop := halved(b)
	lines := strings.Split(b[:stop], end)
	used, fields := 0, []api.Field{}
	for i, line := range lines[:len(lines)-1] {
		used += len(line) + len(end)
		if i == 0 {
			if _, e := reqline.Parse(line); e != api.OK {
				return bad(used, e)
			}
			continue
		}
		if line == "" {
			return wholeOpinion(lines[0], fields, used)
		}
		f, e := field.Parse(line)
		if e != api.OK {
			return bad(used, e)
		}
		if i > api.MaxFields {
			return bad(used, api.ErrFull)
		}
		fields = append(fields, f)
	}
	if stop < len(b) {
		return bad(stop+1, api.ErrForm)
	}
	return open(len(b))
}

// wholeOpinion is what a head tells by the layers below, that many bytes having come.
func wholeOpinion(first string, fields []api.Field, used int) api.Verdict {
	r, _ := reqline.Parse(first)
	text, port, e := authority.Of(r, fields)
	if e != api.OK {
		return bad(used, e)
	}
	host, e := name.Normal(text)
	if e != api.OK {
		return bad(used, e)
	}
	return done(used, host, port)
}

// tells fails if All of b does not answer want, or changes b, or Take of each byte does not answer what it should: PeekOpen up to want.Used, and want from then on.
func tells(t *testing.T, what, b string, want api.Verdict) {
	t.Helper()
	room := append([]byte(b), "spare room"...)
	if got := httppeek.All(room[:len(b)]); !same(got, want) {
		t.Fatalf("%s: All of %d bytes, %.60q: %+v, not %+v", what, len(b), b, got, want)
	}
	if string(room) != b+"spare room" {
		t.Fatalf("%s: what was handed in, %.60q, became %.60q", what, b, room)
	}
	p := httppeek.New()
	for i := range len(b) {
		v := want
		if want.State == api.PeekOpen || i+1 < want.Used {
			v = open(i + 1)
		}
		if got := p.Take(b[i]); !same(got, v) {
			t.Fatalf("%s: Take of byte %d of %.60q: %+v, not %+v", what, i, b, got, v)
		}
	}
}

// held holds all that is told of b against the second opinion.
func held(t *testing.T, b string) {
	t.Helper()
	tells(t, "held", b, opinion(b))
}

// known fails if want is not what is told of b, and more behind it; or if it is told without the last byte of b.
func known(t *testing.T, what, b string, want api.Verdict) {
	t.Helper()
	tells(t, what, b, want)
	tells(t, what+", and a head", b+full, want)
	tells(t, what+", and half of a line's end", b+"\n\n", want)
	tells(t, what+", but for a byte", b[:len(b)-1], open(len(b)-1))
}

// refused fails if b isn't wrong with its last byte, by that reason.
func refused(t *testing.T, what, b string, reason api.Errno) {
	t.Helper()
	known(t, what, b, bad(len(b), reason))
}

// isFor fails if b isn't whole with its last byte, or not for that host and port.
func isFor(t *testing.T, b, host string, port int) {
	t.Helper()
	known(t, b, b, done(len(b), host, port))
}

// P16.1

func TestNothing(t *testing.T) {
	for _, b := range [][]byte{nil, {}} {
		if v := httppeek.All(b); !same(v, open(0)) {
			t.Errorf("of nothing: %+v", v)
		}
	}
}

// TestWritten has bytes and verdicts as they stand in the document, and others written out.
func TestWritten(t *testing.T) {
	tells(t, "the example", "\n", bad(1, api.ErrForm))
	tells(t, "a byte", "G", open(1))
	tells(t, "a line begun", "GET / HTTP/1.1", open(14))
	tells(t, "a line's end begun", "GET / HTTP/1.1\r", open(15))
	tells(t, "a line", "GET / HTTP/1.1\r\n", open(16))
	tells(t, "a field", "GET / HTTP/1.1\r\nHost: A\r\n", open(25))
	tells(t, "the last end begun", "GET / HTTP/1.1\r\nHost: A\r\n\r", open(26))
	tells(t, "a head", "GET / HTTP/1.1\r\nHost: A\r\n\r\n", done(27, "a", 0))
	tells(t, "a head, and more", "GET / HTTP/1.1\r\nHost: A:443\r\n\r\nmore\n", done(31, "a", 443))
	tells(t, "a head without fields", "GET http://a.b:80/ HTTP/1.0\r\n\r\n", done(31, "a.b", 80))
	tells(t, "the document's own", "GET / HTTP/1.1\r\nHost: www.example\r\n\r\n", done(37, "www.example", 0))
}

// TestLineEnds tries each byte behind a carriage return, and behind others, at each place of a head.
func TestLineEnds(t *testing.T) {
	for at := range full {
		ahead, returned := full[:at], strings.HasSuffix(full[:at], "\r")
		for c := range 256 {
			b := ahead + string([]byte{byte(c)})
			switch {
			case returned != (c == '\n'):
				refused(t, "half of an end", b, api.ErrForm)
			case returned:
				held(t, b)
			default:
				tells(t, "a byte of a line", b, open(len(b)))
			}
		}
	}
}

// TestHalves has more than one byte of a line's end, in each order.
func TestHalves(t *testing.T) {
	for _, ahead := range []string{"", "G", "GET / HTTP/1.1", get, get + "a: b", get + "a: b" + end} {
		refused(t, "a line feed", ahead+"\n", api.ErrForm)
		refused(t, "two returns", ahead+"\r\r", api.ErrForm)
		refused(t, "a return and a byte", ahead+"\ra", api.ErrForm)
		tells(t, "two returns, and a line feed", ahead+"\r\r\n", bad(len(ahead)+2, api.ErrForm))
		tells(t, "a line feed, and a return", ahead+"\n\r", bad(len(ahead)+1, api.ErrForm))
		tells(t, "two line feeds", ahead+"\n\n", bad(len(ahead)+1, api.ErrForm))
		tells(t, "a return", ahead+"\r", open(len(ahead)+1))
	}
	refused(t, "an end, and a line feed", get+"\n", api.ErrForm)
	tells(t, "a blank between the halves", "GET / HTTP/1.1\r \n", bad(16, api.ErrForm))
}

// TestFirstLine has the errors of a first line: they are known with its end.
func TestFirstLine(t *testing.T) {
	for line, reason := range map[string]api.Errno{
		"": api.ErrForm, " ": api.ErrForm, "GET": api.ErrForm, "GET /": api.ErrForm, "GET  / HTTP/1.1": api.ErrForm, "GET / HTTP/1.1 ": api.ErrForm, "GET\t/\tHTTP/1.1": api.ErrForm,
		"GET \x7f HTTP/1.1": api.ErrForm, "GET  HTTP/1.1": api.ErrForm, "GET /\xff HTTP/1.1": api.ErrForm, "GET /\x00 HTTP/1.1": api.ErrForm,
		" / HTTP/1.1": api.ErrMethod, "G:T / HTTP/1.1": api.ErrMethod, strings.Repeat("G", api.MaxMethod+1) + " / HTTP/1.1": api.ErrMethod,
		"GET " + strings.Repeat("/", api.MaxTarget+1) + " HTTP/1.1": api.ErrLength,
		"GET / HTTP/1.2": api.ErrVersion, "GET / http/1.1": api.ErrVersion, "GET / ": api.ErrVersion, "Host: a b": api.ErrMethod,
	} {
		refused(t, "a first line", line+end, reason)
	}
	isFor(t, strings.Repeat("G", api.MaxMethod)+" / HTTP/1.1"+end+"host:a"+end+end, "a", 0)
	isFor(t, "GET "+strings.Repeat("/", api.MaxTarget)+" HTTP/1.1"+end+"host:a"+end+end, "a", 0)
}

// TestFields has the errors of a field: they are known with its line's end, whichever line it is.
func TestFields(t *testing.T) {
	for line, reason := range map[string]api.Errno{
		"a": api.ErrName, " ": api.ErrName, ":": api.ErrName, ": a": api.ErrName, "a b: c": api.ErrName, "a : b": api.ErrName, " a: b": api.ErrName, "\ta: b": api.ErrName, "a\xff: b": api.ErrName, "\x00": api.ErrName, get[:14]: api.ErrName,
		"a: \x00": api.ErrForm, "a: \x7fb": api.ErrForm, "a:b\x1f": api.ErrForm, "Host: a\x08": api.ErrForm,
	} {
		for _, ahead := range []string{get, get + "Host: a" + end, get + numbered(99)} {
			refused(t, "a field", ahead+line+end, reason)
		}
	}
	for _, line := range []string{"a:", "a: ", "a:b:c", "a:\t\xff\x80", "!#$%&'*+-.^_`|~:", "hosts: b", "a: " + strings.Repeat("host: b", 1000)} {
		isFor(t, get+line+end+"Host: a"+end+end, "a", 0)
		isFor(t, get+"Host: a"+end+line+end+end, "a", 0)
	}
}

// TestMaxFields has as many fields as may be, one more, and far more.
func TestMaxFields(t *testing.T) {
	for n := range api.MaxFields {
		isFor(t, get+numbered(n)+"Host: a"+end+numbered(api.MaxFields-1-n)+end, "a", 0)
	}
	refused(t, "without a host", get+numbered(api.MaxFields)+end, api.ErrNone)
	refused(t, "one more", get+numbered(api.MaxFields+1), api.ErrFull)
	refused(t, "a host more", get+numbered(api.MaxFields)+"Host: a"+end, api.ErrFull)
	refused(t, "one more of a name", get+strings.Repeat("host:a"+end, api.MaxFields+1), api.ErrFull)
	refused(t, "one more, with an absolute target", "GET http://a/ HTTP/1.1"+end+numbered(api.MaxFields+1), api.ErrFull)
	refused(t, "one more, of no name", get+numbered(api.MaxFields)+"a b: c"+end, api.ErrName)
	refused(t, "one more, of no form", get+numbered(api.MaxFields)+"a: \x00"+end, api.ErrForm)
	refused(t, "one more, without an end", get+numbered(api.MaxFields)+"a: b\n", api.ErrForm)
	tells(t, "many more", get+numbered(1000)+end, bad(len(get+numbered(101)), api.ErrFull))
	isFor(t, "GET http://a/ HTTP/1.1"+end+numbered(api.MaxFields)+end, "a", 0)
}

// TestEmptyLines has lines without anything in them.
func TestEmptyLines(t *testing.T) {
	refused(t, "the first one", end, api.ErrForm)
	refused(t, "the second one", get+end, api.ErrNone)
	isFor(t, "GET http://a HTTP/1.1"+end+end, "a", 0)
	isFor(t, get+"host:a"+end+end, "a", 0)
	refused(t, "a blank, which is none", get+"host:a"+end+" "+end, api.ErrName)
	tells(t, "one ahead of the host", get+"x:"+end+end+"host:a"+end+end, bad(len(get+"x:"+end+end), api.ErrNone))
}

// TestRequests has heads that tell no host, or more than one, in the forms of targets.
func TestRequests(t *testing.T) {
	for _, w := range []struct {
		first, fields string
		reason        api.Errno
	}{
		{"CONNECT a:1 HTTP/1.1", "", api.ErrMethod},
		{"CONNECT / HTTP/1.1", "host:a" + end + "host:a" + end, api.ErrMethod},
		{"GET a HTTP/1.1", "host:a" + end, api.ErrForm},
		{"GET https://a/ HTTP/1.1", "host:a" + end + "host:b" + end, api.ErrForm},
		{"GET / HTTP/1.1", "hosts:a" + end, api.ErrNone},
		{"GET * HTTP/1.0", "", api.ErrNone},
		{"GET / HTTP/1.1", "host:a" + end + "x:" + end + "HOST:a" + end, api.ErrTwice},
		{"GET http://a/ HTTP/1.1", "host:a" + end + "host:a" + end, api.ErrTwice},
		{"GET http:// HTTP/1.1", "host:a" + end + "host:a" + end, api.ErrTwice},
		{"GET http:// HTTP/1.1", "host:a" + end, api.ErrNone},
		{"GET http://:80 HTTP/1.1", "host:a" + end, api.ErrNone},
		{"GET http://a@b/ HTTP/1.1", "host:a" + end, api.ErrForm},
		{"GET http://a:0/ HTTP/1.1", "host:a" + end, api.ErrPort},
		{"GET http://a..b/ HTTP/1.1", "host:a" + end, api.ErrName},
	} {
		refused(t, w.first, w.first+end+w.fields+end, w.reason)
	}
	isFor(t, "OPTIONS * HTTP/1.1"+end+"Host: a:1"+end+end, "a", 1)
	isFor(t, "connect / HTTP/1.1"+end+"Host: a"+end+end, "a", 0)
	isFor(t, "GET HTTP://A:65535?x HTTP/1.1"+end+"Host: b:7"+end+end, "a", 65535)
	isFor(t, "GET http://[::1]/ HTTP/1.0"+end+"Host:"+end+end, "::1", 0)
}

// TestHosts tells hosts in their one form, whether a field tells them or a target.
func TestHosts(t *testing.T) {
	for text, host := range map[string]string{
		"a": "a", "A.b.": "a.b", "WWW.Example": "www.example", "x_1.a-b": "x_1.a-b", "1.2.3.4": "1.2.3.4", "[0:0::A]": "::a", "[::FFFF:1.2.3.4]": "1.2.3.4",
		strings.Repeat("a.", 126) + "B.": strings.Repeat("a.", 126) + "b",
	} {
		isFor(t, get+"Host: "+text+end+end, host, 0)
		isFor(t, get+"Host: "+text+":8443"+end+end, host, 8443)
		isFor(t, "GET http://"+text+":1/ HTTP/1.1"+end+end, host, 1)
	}
}

// TestNoHosts has texts of which authority or name tells an error; with both the one of authority is told.
func TestNoHosts(t *testing.T) {
	for text, reason := range map[string]api.Errno{
		"": api.ErrNone, ":80": api.ErrNone, "a b": api.ErrForm, "a@b": api.ErrForm, "\xff": api.ErrForm, "\u212a": api.ErrForm, "[1.2.3.4]": api.ErrForm, "[::1": api.ErrForm, "[::1]a": api.ErrForm,
		"a:": api.ErrPort, "a:0": api.ErrPort, "a:080": api.ErrPort, "a:65536": api.ErrPort, "::1": api.ErrNone, "1::1": api.ErrPort,
		".": api.ErrNone, ".:80": api.ErrNone, "a..b": api.ErrName, "-a": api.ErrName, "a.12:1": api.ErrName, "*.a": api.ErrName, "1.2.3.4.": api.ErrName,
		strings.Repeat("a", 64): api.ErrName, strings.Repeat("a", 254) + ":1": api.ErrLength, "a/b": api.ErrName, "a,b": api.ErrName,
		"a..b:0": api.ErrPort, ".:0": api.ErrPort, strings.Repeat("a", 254) + "@": api.ErrForm,
	} {
		refused(t, "a host", get+"Host: "+text+end+end, reason)
	}
}

// TestFirstWrong has rows that are wrong at more than one byte, or with more than one error at one: the first one is told.
func TestFirstWrong(t *testing.T) {
	tells(t, "the first line, and a field", "GET / HTTP/1.2"+end+"a"+end, bad(16, api.ErrVersion))
	tells(t, "a line feed, and the first line", "GET /\n HTTP/1.2"+end, bad(6, api.ErrForm))
	tells(t, "two fields", get+"a:\x00"+end+"a"+end, bad(len(get)+5, api.ErrForm))
	tells(t, "two fields, turned", get+"a"+end+"a:\x00"+end, bad(len(get)+3, api.ErrName))
	tells(t, "a field and a line feed", get+"a"+end+"\n", bad(len(get)+3, api.ErrName))
	tells(t, "a line feed in a field", get+"a\n", bad(len(get)+2, api.ErrForm))
	tells(t, "a field, with a host that tells none", get+"host:."+end+"host:a"+end+"a"+end+end, bad(len(get+"host:."+end+"host:a"+end)+3, api.ErrName))
	tells(t, "a method, and a field", "CONNECT a HTTP/1.1"+end+"a"+end, bad(23, api.ErrName))
	refused(t, "a method, and no host", "CONNECT .. HTTP/1.1"+end+end, api.ErrMethod)
	refused(t, "two hosts, which are none", get+"host:."+end+"host:a:0"+end+end, api.ErrTwice)
}

// P16.2

// TestTakeStays brings all bytes, and another head, behind what is known.
func TestTakeStays(t *testing.T) {
	for b, want := range map[string]api.Verdict{
		full:                               fullVerdict(),
		"\n":                               bad(1, api.ErrForm),
		end:                                bad(2, api.ErrForm),
		"GET / HTTP/2" + end:               bad(14, api.ErrVersion),
		get + end:                          bad(18, api.ErrNone),
		get + "a" + end:                    bad(19, api.ErrName),
		get + "Host: ." + end + end:        bad(27, api.ErrNone),
		get + numbered(101):                bad(len(get+numbered(101)), api.ErrFull),
		"GET http://[::2]/ HTTP/1.0\r\n\n": bad(29, api.ErrForm),
	} {
		known(t, "and another head", b, want)
		p := httppeek.New()
		for i := range len(b) {
			p.Take(b[i])
		}
		for c := range 1000 {
			if got := p.Take(byte(c)); !same(got, want) {
				t.Fatalf("byte %d behind %.60q: %+v, not %+v", c, b, got, want)
			}
		}
	}
}

// TestApart brings bytes to peekers by turns.
func TestApart(t *testing.T) {
	one, other, third := httppeek.New(), httppeek.New(), httppeek.New()
	r := get + "Host: b:1" + end + end
	for i := range len(full) + 5 {
		a, b := min(i, len(full)-1), min(i, len(r)-1)
		if got, want := one.Take(full[a]), opinion(full[:a+1]); !same(got, want) {
			t.Fatalf("the one, byte %d: %+v, not %+v", i, got, want)
		}
		if got, want := other.Take(r[b]), opinion(r[:b+1]); !same(got, want) {
			t.Fatalf("the other, byte %d: %+v, not %+v", i, got, want)
		}
		if got := third.Take('\n'); !same(got, bad(1, api.ErrForm)) {
			t.Fatalf("the third, byte %d: %+v", i, got)
		}
	}
}

// TestAnswersApart has a host told many times, each time in memory of its own.
func TestAnswersApart(t *testing.T) {
	p := httppeek.New()
	seen := map[*byte]bool{}
	var texts []string // held, so that no memory is used twice
	for i := range len(full) + 50 {
		v := p.Take(full[min(i, len(full)-1)])
		if v.Host == "" {
			continue
		}
		texts = append(texts, v.Host)
		if at := unsafe.StringData(v.Host); seen[at] {
			t.Fatalf("the host of answer %d is that of another", i)
		} else {
			seen[at] = true
		}
	}
	if len(texts) != 51 {
		t.Errorf("%d hosts were told", len(texts))
	}
}

// TestAllMemory turns what was handed in, behind the answer.
func TestAllMemory(t *testing.T) {
	for _, s := range []string{full, "GET http://host.of.a.target/ HTTP/1.1" + end + end} {
		b := []byte(s)
		v := httppeek.All(b)
		for i := range b {
			b[i] = ^b[i]
		}
		if !same(v, opinion(s)) {
			t.Errorf("the answer became %+v", v)
		}
	}
}

// P16.3

// TestNothingAhead has heads that are wrong from an early byte on, or could tell no more: they are known at the byte that the document names.
func TestNothingAhead(t *testing.T) {
	refused(t, "a method of no form", strings.Repeat("\x00", 100)+end, api.ErrForm)
	refused(t, "a method of many bytes", strings.Repeat("G", 1000)+" / HTTP/1.1"+end, api.ErrMethod)
	refused(t, "a target of many bytes", "GET "+strings.Repeat("/", 20000)+" HTTP/1.1"+end, api.ErrLength)
	refused(t, "a field without a name", get+" "+strings.Repeat("a", 1000)+end, api.ErrName)
	refused(t, "a method", "CONNECT a HTTP/1.1"+end+numbered(50)+end, api.ErrMethod)
	refused(t, "two hosts", get+"host:a"+end+"host:a"+end+numbered(50)+end, api.ErrTwice)
	refused(t, "a host that is none", get+"host:a..b"+end+numbered(50)+end, api.ErrName)
	isFor(t, "GET http://a/ HTTP/1.1"+end+numbered(50)+end, "a", 0)
}

// mixed is n bytes without an order, the same ones in each run.
func mixed(n int) string {
	out := make([]byte, n)
	rand.New(rand.NewSource(16)).Read(out)
	return string(out)
}

// TestNoMoreBytes lays bytes without an order behind what is known, and behind what is not.
func TestNoMoreBytes(t *testing.T) {
	for n := range len(full) {
		tells(t, "and more", full+mixed(n), fullVerdict())
		tells(t, "and more", "GET / HTTP/1.1\n"+mixed(n), bad(15, api.ErrForm))
		held(t, full[:len(full)-n]+mixed(n))
	}
}

// TestTurned turns a byte of a head, at each place, into each other; takes it away; and has it twice.
func TestTurned(t *testing.T) {
	for _, s := range []string{full, "GET http://[::1]:80/ HTTP/1.1" + end + "Host: x" + end + end} {
		for i := range len(s) {
			b := []byte(s)
			for c := range 256 {
				b[i] = byte(c)
				held(t, string(b))
			}
			held(t, s[:i]+s[i+1:])
			held(t, s[:i]+s[i:i+1]+s[i:])
		}
	}
}

// TestLikely holds rows of likely pieces against the second opinion.
func TestLikely(t *testing.T) {
	source := rand.New(rand.NewSource(16))
	pieces := []string{"\r", "\n", end, end, end, "a", "A.b", ":", ": ", " ", "\t", "Host: ", "host:a", "GET / HTTP/1.1", "http://a", "*", "CONNECT", "[::1]", ":80", "/", ".", "\x00", "\xff"}
	firsts := []string{"", get, get, get, "GET http://A:1/ HTTP/1.0" + end, "CONNECT a HTTP/1.1" + end, "GET a HTTP/1.1" + end, get + numbered(98), get + numbered(99), get + numbered(100)}
	states := map[int]int{}
	for range 30000 {
		b := firsts[source.Intn(len(firsts))]
		if source.Intn(2) == 0 {
			b += "Host: "
		}
		for range source.Intn(9) {
			b += pieces[source.Intn(len(pieces))]
		}
		held(t, b)
		held(t, b+end+end)
		states[opinion(b+end+end).State]++
	}
	if states[api.PeekDone] < 1000 || states[api.PeekBad] < 1000 {
		t.Errorf("too few of a state: %v", states)
	}
}

// W1

// TestMany has lines far longer than are needed, and far more bytes.
func TestMany(t *testing.T) {
	const n = 1 << 20
	long := strings.Repeat("a", n)
	tells(t, "a line without an end", long, open(n))
	tells(t, "a long field", get+"x:"+long+end+"host:a"+end+end, done(len(get)+n+14, "a", 0))
	tells(t, "a long name", get+"host:"+long+end+end, bad(len(get)+n+9, api.ErrLength))
	tells(t, "behind a head", full+long, fullVerdict())
	tells(t, "line feeds", strings.Repeat("\n", n), bad(1, api.ErrForm))
	tells(t, "carriage returns", strings.Repeat("\r", n), bad(2, api.ErrForm))
	tells(t, "ends of lines", strings.Repeat(end, n), bad(2, api.ErrForm))
}

func FuzzHeads(f *testing.F) {
	f.Add([]byte(full))
	f.Add([]byte(get + "Host: a" + end + "host: a" + end + end))
	f.Add([]byte("GET http://[::1]:80/ HTTP/1.1" + end + end))
	f.Add([]byte(get + numbered(100) + "a: b"))
	f.Add([]byte("\r\r\n"))
	f.Fuzz(func(t *testing.T, b []byte) {
		held(t, string(b))
		held(t, get+string(b)+end+end)
		held(t, get+"Host: "+string(b)+end+end)
		held(t, "GET http://"+string(b)+" HTTP/1.1"+end+end)
	})
}
