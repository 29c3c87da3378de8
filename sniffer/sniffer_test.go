package sniffer_test

import (
	"fmt"
	"math"
	"math/rand"
	"slices"
	"strings"
	"testing"
	"unsafe"

	"hagioscope/api"
	"hagioscope/exts"
	"hagioscope/hello"
	"hagioscope/httppeek"
	"hagioscope/record"
	"hagioscope/shake"
	"hagioscope/sniffer"
	"hagioscope/tlspeek"
)

const (
	none = api.ProtoNone
	tls  = api.ProtoTls
	http = api.ProtoHttp
	end  = "\r\n"
	head = "GET /a HTTP/1.1" + end + "Accept: */*" + end + "HOST:\tWWW.Example.:8080 " + end + end
)

// greeting is records, of so many bytes each, of a hello with those extensions.
func greeting(size int, l ...api.Ext) string {
	body, ok := hello.Print(api.Hello{Version: 0x303, Session: []byte("s"), Ciphers: []int{0x1301}, Methods: []byte{0}, HasExts: true, Exts: l})
	if !ok {
		panic("no hello")
	}
	m, ok := shake.Wrap(body)
	if !ok {
		panic("no message")
	}
	return string(record.Frame(m, size))
}

// named is an extension that tells a name.
func named(s string) api.Ext {
	d, ok := exts.PutName(s)
	if !ok {
		panic("no name")
	}
	return api.Ext{Kind: api.ExtName, Data: d}
}

// full is a hello with all that is looked at, in records of so many bytes.
func full(size int) string {
	protocols, _ := exts.PutProtocols([]string{"h2", "x"})
	versions, _ := exts.PutVersions([]int{0x304, 0x303})
	return greeting(size, api.Ext{Kind: 7, Data: []byte("ab")}, api.Ext{Kind: api.ExtVersions, Data: versions}, named("WWW.Example."), api.Ext{Kind: api.ExtEch}, api.Ext{Kind: api.ExtProtocols, Data: protocols})
}

// fullVerdict is what full tells, by that many bytes; headVerdict what head does.
func fullVerdict(used int) api.Verdict {
	return api.Verdict{State: api.PeekDone, Proto: tls, Used: used, Host: "www.example", Seen: api.Seen{HasName: true, Name: "WWW.Example.", Alpn: []string{"h2", "x"}, Versions: []int{0x304, 0x303}, Ech: true}}
}

func headVerdict() api.Verdict {
	return api.Verdict{State: api.PeekDone, Proto: http, Used: len(head), Host: "www.example", Port: 8080}
}

// open and bad are verdicts: all that is not named is zero.
func open(proto, used int) api.Verdict {
	return api.Verdict{State: api.PeekOpen, Proto: proto, Used: used}
}

func bad(proto, used int, reason api.Errno) api.Verdict {
	return api.Verdict{State: api.PeekBad, Proto: proto, Used: used, Reason: reason}
}

// same says whether two verdicts are the same: lists without anything in them are.
func same(a, b api.Verdict) bool {
	return a.State == b.State && a.Proto == b.Proto && a.Used == b.Used && a.Reason == b.Reason && a.Host == b.Host && a.Port == b.Port &&
		a.Seen.HasName == b.Seen.HasName && a.Seen.Name == b.Seen.Name && a.Seen.Ech == b.Seen.Ech &&
		slices.Equal(a.Seen.Alpn, b.Seen.Alpn) && slices.Equal(a.Seen.Versions, b.Seen.Versions)
}

// opinion is a second opinion on b: it asks for all bytes at once.
func opinion(b string, most int) api.Verdict {
	most = min(max(most, 1), 1<<14)
	first := []byte(b[:min(len(b), most)])
	var v api.Verdict
	switch {
	case b == "":
		return v
	case b[0] == 0x16:
		v = tlspeek.All(first)
	case strings.Contains("ABCDEFGHIJKLMNOPQRSTUVWXYZ", b[:1]):
		v = httppeek.All(first)
	default:
		return bad(none, 1, api.ErrType)
	}
	if v.State == api.PeekOpen && len(b) >= most {
		return bad(v.Proto, most, api.ErrFull)
	}
	return v
}

// ended is what End tells behind v.
func ended(v api.Verdict) api.Verdict {
	if v.State == api.PeekOpen {
		return bad(v.Proto, v.Used, api.ErrForm)
	}
	return v
}

// all fails if All of b does not answer want, or changes b.
func all(t *testing.T, what, b string, most int, want api.Verdict) {
	t.Helper()
	room := append([]byte(b), "spare room"...)
	if got := sniffer.All(room[:len(b)], most); !same(got, want) {
		t.Fatalf("%s: All of %d bytes, %.60q, %d at most: %+v, not %+v", what, len(b), b, most, got, want)
	}
	if string(room) != b+"spare room" {
		t.Fatalf("%s: what was handed in, %.60q, became %.60q", what, b, room)
	}
}

// takes fails if s does not take n of b, or does not answer want, or changes b.
func takes(t *testing.T, what string, s *sniffer.Sniffer, b string, n int, want api.Verdict) {
	t.Helper()
	room := append([]byte(b), "spare room"...)
	if took, got := s.Take(room[:len(b)]); took != n || !same(got, want) {
		t.Fatalf("%s: of %.60q: %d, %+v, not %d, %+v", what, b, took, got, n, want)
	}
	if string(room) != b+"spare room" {
		t.Fatalf("%s: what was handed in, %.60q, became %.60q", what, b, room)
	}
}

// ends fails if End of s does not answer want, more than once, or it takes more.
func ends(t *testing.T, what string, s *sniffer.Sniffer, want api.Verdict) {
	t.Helper()
	for range 2 {
		if got := s.End(); !same(got, want) {
			t.Fatalf("%s: the end: %+v, not %+v", what, got, want)
		}
		takes(t, what+", behind its end", s, "GET", 0, want)
		takes(t, what+", behind its end", s, "\x16\x03", 0, want)
		takes(t, what+", behind its end", s, "", 0, want)
	}
}

// pieces fails if a sniffer to which b comes in pieces, each as long as next says, takes other bytes, or tells other verdicts, than it should.
func pieces(t *testing.T, what, b string, most int, next func() int) {
	t.Helper()
	s, whole := sniffer.New(most), opinion(b, most)
	used := len(b)
	if whole.State != api.PeekOpen {
		used = whole.Used
	}
	for at := 0; at < len(b); {
		n := min(next(), len(b)-at)
		took := min(n, max(used-at, 0))
		takes(t, fmt.Sprintf("%s, %d of %d bytes from byte %d on, %d at most", what, n, len(b), at, most), s, b[at:at+n], took, opinion(b[:at+n], most))
		at += n
	}
	takes(t, what+", and nothing", s, "", 0, whole)
	ends(t, what, s, ended(whole))
}

// held holds what is told of b, at once, byte by byte and in pieces, against the second opinion.
func held(t *testing.T, b string, most int) {
	t.Helper()
	all(t, "held", b, most, opinion(b, most))
	for _, n := range []int{1, 2, 3, 17, len(b)} {
		pieces(t, "held", b, most, func() int { return max(n, 1) })
	}
}

// mixed is n bytes without an order, the same ones in each run.
func mixed(n int) string {
	out := make([]byte, n)
	rand.New(rand.NewSource(17)).Read(out)
	return string(out)
}

// P17.1

func TestNothing(t *testing.T) {
	for _, most := range []int{math.MinInt, -1, 0, 1, 9, api.MaxPeek, math.MaxInt} {
		for _, b := range [][]byte{nil, {}} {
			if v := sniffer.All(b, most); !same(v, api.Verdict{}) {
				t.Errorf("of nothing, %d at most: %+v", most, v)
			}
			if n, v := sniffer.New(most).Take(b); n != 0 || !same(v, api.Verdict{}) {
				t.Errorf("nothing taken, %d at most: %d, %+v", most, n, v)
			}
		}
	}
}

// TestWritten has bytes and verdicts as they stand in the document, and others written out.
func TestWritten(t *testing.T) {
	all(t, "the example", "a", 9, bad(none, 1, api.ErrType))
	all(t, "the document's own", "GET / HTTP/1.1\r\nHost: www.example\r\n\r\n", 99, api.Verdict{State: api.PeekDone, Proto: http, Used: 37, Host: "www.example"})
	all(t, "a request begun", "GET", 9, open(http, 3))
	all(t, "a request of the most", "GET", 3, bad(http, 3, api.ErrFull))
	all(t, "a request of more", "GET /", 3, bad(http, 3, api.ErrFull))
	all(t, "a hello begun", "\x16\x03\x01", 9, open(tls, 3))
	all(t, "a hello of the most", "\x16\x03\x01", 3, bad(tls, 3, api.ErrFull))
	all(t, "a wrong hello", "\x16\x03\x05", 3, bad(tls, 3, api.ErrVersion))
	all(t, "a hello that is wrong behind the most", "\x16\x03\x05", 2, bad(tls, 2, api.ErrFull))
	all(t, "a wrong request", "G\n", 2, bad(http, 2, api.ErrForm))
	all(t, "a request that is wrong behind the most", "G\n", 1, bad(http, 1, api.ErrFull))
	all(t, "a hello", full(api.MaxRecord), api.MaxPeek, fullVerdict(len(full(api.MaxRecord))))
	all(t, "a head", head, api.MaxPeek, headVerdict())
	all(t, "a head, and more", head+"more\n", api.MaxPeek, headVerdict())
}

// TestFirstByte tries each first byte, alone and with more behind it, which may be what one of another protocol could have.
func TestFirstByte(t *testing.T) {
	for c := range 256 {
		first := string([]byte{byte(c)})
		proto := none
		if c == 0x16 {
			proto = tls
		} else if c >= 'A' && c <= 'Z' {
			proto = http
		}
		for _, behind := range []string{"", "a", head[1:], full(50)[1:], mixed(100)} {
			for _, most := range []int{math.MinInt, 1, 2, 3, api.MaxPeek, math.MaxInt} {
				b := first + behind
				held(t, b, most)
				v := sniffer.All([]byte(b), most)
				if v.Proto != proto {
					t.Errorf("%.20q, %d at most: the protocol %d, not %d", b, most, v.Proto, proto)
				}
				if want := bad(none, 1, api.ErrType); proto == none && !same(v, want) {
					t.Errorf("%.20q, %d at most: %+v, not %+v", b, most, v, want)
				}
			}
		}
	}
}

// TestMost has heads and hellos with each most up to their length, and past it.
func TestMost(t *testing.T) {
	for b, want := range map[string]api.Verdict{head: headVerdict(), full(9): fullVerdict(len(full(9))), full(api.MaxRecord): fullVerdict(len(full(api.MaxRecord)))} {
		for most := 1; most < len(b); most++ {
			cut := bad(want.Proto, most, api.ErrFull)
			all(t, "as many as may be", b[:most], most, cut)
			all(t, "more", b, most, cut)
			all(t, "far more", b+b, most, cut)
			all(t, "but for a byte", b[:most-1], most, opinion(b[:most-1], most+1))
			takes(t, "more", sniffer.New(most), b, most, cut)
		}
		for _, most := range []int{len(b), len(b) + 1, api.MaxPeek} {
			all(t, "whole", b, most, want)
			all(t, "whole, and more", b+b, most, want)
			takes(t, "whole, and more", sniffer.New(most), b+b, len(b), want)
			all(t, "but for a byte", b[:len(b)-1], most, open(want.Proto, len(b)-1))
		}
	}
}

// TestMostWrong has bytes that are wrong at the last one that may be, and behind it.
func TestMostWrong(t *testing.T) {
	for b, reason := range map[string]api.Errno{
		"GET / HTTP/1.1\n":                                       api.ErrForm,
		"GET / HTTP/2" + end:                                     api.ErrVersion,
		head[:17] + "a b: c" + end:                               api.ErrName,
		head[:17] + end:                                          api.ErrNone,
		"\x16\x03\x00\x40\x01":                                   api.ErrLength,
		"\x16\x03\x00\x00\x01\x02":                               api.ErrType,
		"\x16\x03\x00\x00\x04\x01\x00\x00\x00":                   api.ErrForm,
		greeting(50, named("a.1")):                               api.ErrName,
		greeting(50, named("a"), api.Ext{Kind: api.ExtVersions}): api.ErrForm,
	} {
		proto := opinion(b, api.MaxPeek).Proto
		for _, behind := range []string{"", "a", b} {
			all(t, "wrong", b+behind, len(b), bad(proto, len(b), reason))
			all(t, "wrong", b+behind, api.MaxPeek, bad(proto, len(b), reason))
			all(t, "wrong behind the most", b+behind, len(b)-1, bad(proto, len(b)-1, api.ErrFull))
		}
		all(t, "not wrong yet", b[:len(b)-1], len(b), open(proto, len(b)-1))
	}
	all(t, "of no protocol", "a", 1, bad(none, 1, api.ErrType))
	all(t, "of no protocol", "ab", -7, bad(none, 1, api.ErrType))
}

// TestMostClamped has numbers below 1, and above 2^14, for the most.
func TestMostClamped(t *testing.T) {
	long := map[int]string{http: "GET /" + strings.Repeat("a", 1<<15), tls: "\x16\x03\x01\x40\x00\x01\x00\x40\x00" + mixed(16380) + "\x16\x03\x01\x00\x04" + strings.Repeat("a", 1<<14)}
	for proto, b := range long {
		for _, most := range []int{math.MinInt, math.MinInt + 1, -1, 0, 1} {
			all(t, "the least", b, most, bad(proto, 1, api.ErrFull))
			all(t, "a byte", b[:1], most, bad(proto, 1, api.ErrFull))
			takes(t, "the least", sniffer.New(most), b, 1, bad(proto, 1, api.ErrFull))
		}
		for _, most := range []int{1 << 14, 1<<14 + 1, 1 << 20, 1 << 32, math.MaxInt - 1, math.MaxInt} {
			all(t, "the greatest", b, most, bad(proto, 1<<14, api.ErrFull))
			all(t, "as many", b[:1<<14], most, bad(proto, 1<<14, api.ErrFull))
			all(t, "but for a byte", b[:1<<14-1], most, open(proto, 1<<14-1))
			takes(t, "the greatest", sniffer.New(most), b, 1<<14, bad(proto, 1<<14, api.ErrFull))
		}
		all(t, "one less", b, 1<<14-1, bad(proto, 1<<14-1, api.ErrFull))
	}
}

// TestGreatest has the greatest head and hello that may be, and those one byte longer.
func TestGreatest(t *testing.T) {
	for _, more := range []int{0, 1} {
		b := "GET / HTTP/1.1" + end + "host: a" + end + "x:"
		b += strings.Repeat("y", 1<<14-len(b)-4+more) + end + end
		h := greeting(api.MaxRecord, named("a"), api.Ext{Kind: 7})
		h = greeting(api.MaxRecord, named("a"), api.Ext{Kind: 7, Data: []byte(strings.Repeat("z", 1<<14-len(h)+more))})
		if len(b) != 1<<14+more || len(h) != 1<<14+more {
			t.Fatalf("a head of %d bytes, and a hello of %d", len(b), len(h))
		}
		if more == 0 {
			all(t, "the greatest head", b, api.MaxPeek, api.Verdict{State: api.PeekDone, Proto: http, Used: 1 << 14, Host: "a"})
			all(t, "the greatest hello", h, api.MaxPeek, api.Verdict{State: api.PeekDone, Proto: tls, Used: 1 << 14, Host: "a", Seen: api.Seen{HasName: true, Name: "a"}})
		} else {
			all(t, "a greater head", b, math.MaxInt, bad(http, 1<<14, api.ErrFull))
			all(t, "a greater hello", h, math.MaxInt, bad(tls, 1<<14, api.ErrFull))
		}
	}
}

// P17.2

// TestCutAnywhere brings bytes in two pieces, and in three, one of which may be empty.
func TestCutAnywhere(t *testing.T) {
	for _, b := range []string{head + "more", full(30) + "more", "GET / HTTP/1.1" + end + "a b: c" + end + end, "\x16\x03\x01\x00\x04\x01\x00\x41\x00", "get"} {
		for _, most := range []int{1, 2, 20, len(b) - 5, len(b) - 4, len(b) - 3, len(b), api.MaxPeek} {
			for i := range len(b) + 1 {
				used := opinion(b, most).Used
				s := sniffer.New(most)
				takes(t, "the first piece", s, b[:i], min(i, used), opinion(b[:i], most))
				takes(t, "nothing", s, "", 0, opinion(b[:i], most))
				k := i + (len(b)-i)/2
				takes(t, "the second piece", s, b[i:k], min(k, max(used, i))-i, opinion(b[:k], most))
				takes(t, "the third piece", s, b[k:], max(used, k)-k, opinion(b, most))
			}
		}
	}
}

// TestTakeStays brings more, of every kind, behind what is known.
func TestTakeStays(t *testing.T) {
	for _, w := range []struct {
		b    string
		most int
		want api.Verdict
	}{
		{head, api.MaxPeek, headVerdict()},
		{head, len(head), headVerdict()},
		{full(50), api.MaxPeek, fullVerdict(len(full(50)))},
		{full(50), len(full(50)), fullVerdict(len(full(50)))},
		{"x", api.MaxPeek, bad(none, 1, api.ErrType)},
		{"G\n", api.MaxPeek, bad(http, 2, api.ErrForm)},
		{"\x16\x04", api.MaxPeek, bad(tls, 2, api.ErrVersion)},
		{head[:7], 7, bad(http, 7, api.ErrFull)},
		{full(50)[:7], 7, bad(tls, 7, api.ErrFull)},
		{"G", -1, bad(http, 1, api.ErrFull)},
	} {
		s := sniffer.New(w.most)
		takes(t, "all of it", s, w.b+head, len(w.b), w.want)
		for c := range 300 {
			takes(t, "a byte", s, string([]byte{byte(c)}), 0, w.want)
		}
		for _, more := range []string{"", head, full(50), "a", mixed(1000)} {
			takes(t, "more", s, more, 0, w.want)
		}
		ends(t, "and no more", s, w.want)
	}
}

// TestApart brings bytes to sniffers by turns.
func TestApart(t *testing.T) {
	h := full(40)
	one, other, third := sniffer.New(api.MaxPeek), sniffer.New(len(h)-1), sniffer.New(len(head))
	for i := range max(len(head), len(h)) + 3 {
		for _, w := range []struct {
			s    *sniffer.Sniffer
			b    string
			most int
		}{{one, h, api.MaxPeek}, {other, h, len(h) - 1}, {third, head, len(head)}} {
			took, c := 0, "x"
			if i < min(len(w.b), w.most) {
				took, c = 1, w.b[i:i+1]
			}
			takes(t, fmt.Sprintf("byte %d", i), w.s, c, took, opinion(w.b[:min(i+1, len(w.b))], w.most))
		}
	}
}

// P17.3

// TestEnd ends each beginning of what could be known, and of what is.
func TestEnd(t *testing.T) {
	for _, b := range []string{head, full(50), "GET / HTTP/1.1\n", "\x16\x03\x00\x40\x01", "a"} {
		for i := range len(b) + 1 {
			for _, most := range []int{1, i, i + 1, api.MaxPeek} {
				s := sniffer.New(most)
				s.Take([]byte(b[:i]))
				ends(t, fmt.Sprintf("%d bytes, %d at most", i, most), s, ended(opinion(b[:i], most)))
			}
		}
	}
}

// TestEndWritten has ends, and what they tell, written out.
func TestEndWritten(t *testing.T) {
	for _, w := range []struct {
		b    string
		most int
		want api.Verdict
	}{
		{"", 9, bad(none, 0, api.ErrForm)},
		{"", -9, bad(none, 0, api.ErrForm)},
		{"G", 2, bad(http, 1, api.ErrForm)},
		{"G", 1, bad(http, 1, api.ErrFull)},
		{"\x16", 2, bad(tls, 1, api.ErrForm)},
		{"\x16", 1, bad(tls, 1, api.ErrFull)},
		{"\x16\x03\x01\x00", 9, bad(tls, 4, api.ErrForm)},
		{"\x16\x05", 9, bad(tls, 2, api.ErrVersion)},
		{"a", 9, bad(none, 1, api.ErrType)},
		{head, 999, headVerdict()},
		{head[:len(head)-1], 999, bad(http, len(head)-1, api.ErrForm)},
		{full(99), 999, fullVerdict(len(full(99)))},
	} {
		s := sniffer.New(w.most)
		s.Take([]byte(w.b))
		ends(t, w.b, s, w.want)
	}
}

// P17.4

// spoil writes over the lists of v, their spare room too.
func spoil(v api.Verdict) {
	l := v.Seen.Alpn[:cap(v.Seen.Alpn)]
	for i := range l {
		l[i] = "other"
	}
	n := v.Seen.Versions[:cap(v.Seen.Versions)]
	for i := range n {
		n[i] = -1
	}
}

// texts are all texts of v.
func texts(v api.Verdict) []string { return append([]string{v.Host, v.Seen.Name}, v.Seen.Alpn...) }

// TestAnswersApart spoils each answer, of Take and of End: those ahead of it and behind it stay, and no text lies in two of them.
func TestAnswersApart(t *testing.T) {
	for b, want := range map[string]api.Verdict{full(50): fullVerdict(len(full(50))), head: headVerdict()} {
		s := sniffer.New(api.MaxPeek)
		seen := map[*byte]bool{}
		var held []string // so that no memory is used twice
		_, last := s.Take([]byte(b))
		for i := range 20 {
			for _, x := range texts(last) {
				if at := unsafe.StringData(x); x != "" && seen[at] {
					t.Fatalf("answer %d: the text %q is in two answers", i, x)
				} else {
					seen[at] = true
				}
				held = append(held, x)
			}
			v := s.End()
			if i%2 == 0 {
				_, v = s.Take([]byte("more"))
			}
			spoil(last)
			if !same(v, want) {
				t.Fatalf("answer %d became %+v", i, v)
			}
			last = v
		}
		if len(held) < 40 {
			t.Errorf("%d texts were told", len(held))
		}
	}
}

// TestMemory turns what was handed in, behind the answer, and between two pieces.
func TestMemory(t *testing.T) {
	for b, want := range map[string]api.Verdict{full(50): fullVerdict(len(full(50))), head: headVerdict()} {
		for i := range len(b) {
			s := sniffer.New(api.MaxPeek)
			one, two := []byte(b[:i]), []byte(b[i:])
			s.Take(one)
			turn(one)
			_, v := s.Take(two)
			turn(two)
			if !same(v, want) || !same(s.End(), want) {
				t.Fatalf("cut at %d: the answer became %+v", i, v)
			}
		}
		handed := []byte(b)
		v := sniffer.All(handed, api.MaxPeek)
		spoil(sniffer.All(handed, api.MaxPeek))
		if turn(handed); !same(v, want) {
			t.Errorf("the answer became %+v", v)
		}
	}
}

// turn turns each byte of b.
func turn(b []byte) {
	for i := range b {
		b[i] = ^b[i]
	}
}

// P17.5

// TestPieces brings bytes in pieces without an order.
func TestPieces(t *testing.T) {
	source := rand.New(rand.NewSource(17))
	for _, b := range []string{head + "more", full(50) + "more", full(3), full(api.MaxRecord), "GET / HTTP/1.1\nmore", full(50)[:90] + mixed(40), mixed(50)} {
		for range 300 {
			size := 1 + source.Intn(30)
			pieces(t, "without an order", b, 1+source.Intn(len(b)+20), func() int { return 1 + source.Intn(size) })
		}
	}
}

// TestTurned turns a byte of a head and of a hello, at each place, into others.
func TestTurned(t *testing.T) {
	for _, s := range []string{head, full(60)} {
		for i := range len(s) {
			b := []byte(s)
			for c := range 256 {
				b[i] = byte(c)
				for _, most := range []int{i, i + 1, api.MaxPeek} {
					all(t, "turned", string(b), most, opinion(string(b), most))
				}
			}
			b[i] = s[i] ^ 1
			held(t, string(b), api.MaxPeek)
		}
	}
}

// TestLikely holds rows of likely pieces against the second opinion.
func TestLikely(t *testing.T) {
	source := rand.New(rand.NewSource(17))
	likely := []string{end, end, "a", "Host: ", "host:a", "GET / HTTP/1.1" + end, ":80", "\n", "\x16", "\x16\x03\x01", "\x00", "\x03", "\x01\x00\x00", "Z", "@", "[", full(9), head}
	firsts := []string{"", head, full(9), full(99), head[:17], full(9)[:50], "GET / HTTP/1.1" + end + "Host: ", "\x16\x03\x01\x00\x09\x01"}
	states := map[[2]int]int{}
	for range 4000 {
		b := firsts[source.Intn(len(firsts))]
		for range source.Intn(5) {
			b += likely[source.Intn(len(likely))]
		}
		most := 1 + source.Intn(len(b)+9)
		held(t, b, most)
		v := opinion(b, most)
		states[[2]int{v.State, v.Proto}]++
	}
	if states[[2]int{api.PeekDone, tls}] < 100 || states[[2]int{api.PeekDone, http}] < 100 || states[[2]int{api.PeekOpen, tls}] < 100 || states[[2]int{api.PeekBad, http}] < 100 {
		t.Errorf("too few of a state: %v", states)
	}
}

// W1

// TestMany has far more bytes than are needed, at once and in many pieces.
func TestMany(t *testing.T) {
	const n = 1 << 22
	for b, want := range map[string]api.Verdict{
		head + strings.Repeat("G", n):     headVerdict(),
		full(50) + strings.Repeat("G", n): fullVerdict(len(full(50))),
		strings.Repeat("G", n):            bad(http, 1<<14, api.ErrFull),
		strings.Repeat("\x16", n):         bad(tls, 2, api.ErrVersion),
		strings.Repeat("g", n):            bad(none, 1, api.ErrType),
	} {
		all(t, "many", b, math.MaxInt, want)
		s := sniffer.New(math.MaxInt)
		took := 0
		for i := 0; i < n; i += 1 << 12 {
			k, _ := s.Take([]byte(b[i : i+1<<12]))
			took += k
		}
		if v := s.End(); took != want.Used || !same(v, want) {
			t.Errorf("%.20q: %d taken, %+v, not %+v", b, took, v, want)
		}
	}
}

func FuzzBeginnings(f *testing.F) {
	f.Add([]byte(head), 999)
	f.Add([]byte(full(50)), 999)
	f.Add([]byte(head+"more"), 20)
	f.Add([]byte("\x16\x03\x04\x40\x00\x01"), 6)
	f.Add([]byte("get"), -1)
	f.Add([]byte(nil), 0)
	f.Fuzz(func(t *testing.T, b []byte, most int) {
		held(t, string(b), most)
		held(t, "GET / HTTP/1.1"+end+"Host: "+string(b)+end+end, most)
		if len(b) > 0 && len(b) <= api.MaxHello {
			m, _ := shake.Wrap(b)
			held(t, string(record.Frame(m, len(b)/2)), most)
		}
	})
}
