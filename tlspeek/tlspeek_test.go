package tlspeek_test

import (
	"math/rand"
	"slices"
	"strings"
	"testing"
	"unsafe"

	"hagioscope/api"
	"hagioscope/exts"
	"hagioscope/hello"
	"hagioscope/name"
	"hagioscope/tlspeek"
)

const most = 1 << 14 // bytes of a payload, and of a body

// num is a number of two bytes.
func num(n int) string { return string([]byte{byte(n >> 8), byte(n)}) }

// short is a vector of one, long a vector of two.
func short(x string) string { return string([]byte{byte(len(x))}) + x }
func long(x string) string  { return num(len(x)) + x }

// ext is the bytes of an extension.
func ext(kind int, data string) string { return num(kind) + long(data) }

// named is an extension that tells a name.
func named(s string) string { return ext(0, long("\x00"+long(s))) }

// parts is a hello's bytes, part by part, so that a test may take another for one of them.
type parts struct{ version, session, methods, exts string }

// sound is parts that make a hello with these extensions.
func sound(exts ...string) parts {
	return parts{"\x03\x03", short("s"), short("\x01\x00"), long(strings.Join(exts, ""))}
}

// bytes is all parts, one behind the other.
func (p parts) bytes() string {
	return p.version + mixed(32) + p.session + long("\x13\x01") + p.methods + p.exts
}

// full is extensions of all kinds that are looked at, and one that is not; the name is not in its one form.
func full() parts {
	return sound(ext(7, "ab"), ext(43, "\x04\x03\x04\x03\x03"), named("WWW.Example."), ext(0xfe0d, "x"), ext(16, "\x00\x05\x02h2\x01x"))
}

// fullVerdict is what full tells, by that many bytes.
func fullVerdict(used int) api.Verdict {
	return done(used, "www.example", api.Seen{HasName: true, Name: "WWW.Example.", Alpn: []string{"h2", "x"}, Versions: []int{0x304, 0x303}, Ech: true})
}

// msg is a message, its number made from its body.
func msg(body string) string {
	n := len(body)
	return string([]byte{1, byte(n >> 16), byte(n >> 8), byte(n)}) + body
}

// rec is a record.
func rec(payload string) string { return "\x16\x03\x01" + long(payload) }

// framed is records of x, so many bytes of it each.
func framed(x string, size int) string {
	var b strings.Builder
	for ; len(x) > size; x = x[size:] {
		b.WriteString(rec(x[:size]))
	}
	return b.String() + rec(x)
}

// row is the records of a hello with that body, of so many bytes each.
func row(body string, size int) string { return framed(msg(body), size) }

// mixed is n bytes without an order, the same ones in each run.
func mixed(n int) string {
	out := make([]byte, n)
	rand.New(rand.NewSource(15)).Read(out)
	return string(out)
}

// open, bad and done are verdicts: all that is not named is zero.
func open(used int) api.Verdict {
	return api.Verdict{State: api.PeekOpen, Proto: api.ProtoTls, Used: used}
}

func bad(used int, reason api.Errno) api.Verdict {
	return api.Verdict{State: api.PeekBad, Proto: api.ProtoTls, Used: used, Reason: reason}
}

func done(used int, host string, seen api.Seen) api.Verdict {
	return api.Verdict{State: api.PeekDone, Proto: api.ProtoTls, Used: used, Host: host, Seen: seen}
}

// same says whether two verdicts are the same: lists without anything in them are.
func same(a, b api.Verdict) bool {
	return a.State == b.State && a.Proto == b.Proto && a.Used == b.Used && a.Reason == b.Reason && a.Host == b.Host && a.Port == b.Port &&
		a.Seen.HasName == b.Seen.HasName && a.Seen.Name == b.Seen.Name && a.Seen.Ech == b.Seen.Ech &&
		slices.Equal(a.Seen.Alpn, b.Seen.Alpn) && slices.Equal(a.Seen.Versions, b.Seen.Versions)
}

// payloads is the bytes of the payloads in b, and their places; and where b is wrong, and why (its length, if it is not).
func payloads(b string) (string, []int, int, api.Errno) {
	var x strings.Builder
	var places []int
	for at := 0; at < len(b); {
		head := b[at:min(at+5, len(b))]
		n := 0
		for i := range len(head) {
			c := int(head[i])
			if i > 2 {
				n = n*256 + c
			}
			switch {
			case i == 0 && c != 0x16:
				return x.String(), places, at, api.ErrType
			case i == 1 && c != 3, i == 2 && c > 4:
				return x.String(), places, at + i, api.ErrVersion
			case i == 3 && c > 0x40, i == 4 && (n == 0 || n > most):
				return x.String(), places, at + i, api.ErrLength
			}
		}
		at += len(head)
		for range min(n, len(b)-at) {
			x.WriteByte(b[at])
			places = append(places, at)
			at++
		}
	}
	return x.String(), places, len(b), api.OK
}

// message is how many bytes of x are known to be no message's beginning, and why, or are a message, OK, and its body; 0, if neither is known.
func message(x string) (int, api.Errno, string) {
	if x != "" && x[0] != 1 {
		return 1, api.ErrType, ""
	}
	n := 0
	for i := 1; i < 4; i++ {
		if i >= len(x) {
			return 0, api.OK, ""
		}
		n = n*256 + int(x[i])
		if n<<(8*(3-i)) > most {
			return i + 1, api.ErrLength, ""
		}
	}
	if len(x) < 4+n {
		return 0, api.OK, ""
	}
	return 4 + n, api.OK, x[4 : 4+n]
}

// bodyOpinion is what a body tells by the layers below, that many bytes having come.
func bodyOpinion(body string, used int) api.Verdict {
	h, e := hello.Parse([]byte(body))
	if e != api.OK {
		return bad(used, e)
	}
	seen, e := exts.See(h)
	if e != api.OK {
		return bad(used, e)
	}
	host := ""
	if seen.HasName {
		if host, e = name.Normal(seen.Name); e != api.OK {
			return bad(used, e)
		}
	}
	return done(used, host, seen)
}

// opinion is a second opinion on b: it looks at all records first, and at the message then.
func opinion(b string) api.Verdict {
	x, places, wrong, fault := payloads(b)
	n, reason, body := message(x)
	switch {
	case n > 0 && reason != api.OK:
		return bad(places[n-1]+1, reason)
	case n > 0:
		return bodyOpinion(body, places[n-1]+1)
	case fault != api.OK:
		return bad(wrong+1, fault)
	}
	return open(len(b))
}

// tells fails if All of b does not answer want, or changes b, or Take of each byte does not answer what it should: PeekOpen up to want.Used, and want from then on.
func tells(t *testing.T, what, b string, want api.Verdict) {
	t.Helper()
	room := append([]byte(b), "spare room"...)
	if got := tlspeek.All(room[:len(b)]); !same(got, want) {
		t.Fatalf("%s: All of %d bytes, %.40x: %+v, not %+v", what, len(b), b, got, want)
	}
	if string(room) != b+"spare room" {
		t.Fatalf("%s: what was handed in, %.40x, became %.40x", what, b, room)
	}
	p := tlspeek.New()
	for i := range len(b) {
		v := want
		if want.State == api.PeekOpen || i+1 < want.Used {
			v = open(i + 1)
		}
		if got := p.Take(b[i]); !same(got, v) {
			t.Fatalf("%s: Take of byte %d of %.40x: %+v, not %+v", what, i, b, got, v)
		}
	}
}

// held holds all that is told of b against the second opinion.
func held(t *testing.T, b string) {
	t.Helper()
	tells(t, "held", b, opinion(b))
}

// body fails if a hello of that body isn't told by that host and Seen, or that reason, in whatever records it comes.
func body(t *testing.T, what, b string, host string, seen api.Seen, reason api.Errno) {
	t.Helper()
	for _, size := range []int{1, 2, 3, 4, 5, 7, 100, len(b) + 3, len(b) + 4, most} {
		r := row(b, min(size, most))
		want := done(len(r), host, seen)
		if reason != api.OK {
			want = bad(len(r), reason)
		}
		tells(t, what, r, want)
		tells(t, what+", and more", r+"more", want)
		tells(t, what+", but for a byte", r[:len(r)-1], open(len(r)-1))
	}
}

// refused fails if a hello of that body isn't wrong by that reason.
func refused(t *testing.T, what, b string, reason api.Errno) {
	t.Helper()
	body(t, what, b, "", api.Seen{}, reason)
}

// P15.1

func TestNothing(t *testing.T) {
	for _, b := range [][]byte{nil, {}} {
		if v := tlspeek.All(b); !same(v, open(0)) {
			t.Errorf("of nothing: %+v", v)
		}
	}
}

// TestWritten has bytes and verdicts as they stand in the document, and others written out.
func TestWritten(t *testing.T) {
	tells(t, "the example", "\x17", bad(1, api.ErrType))
	tells(t, "a record begun", "\x16", open(1))
	tells(t, "a head", "\x16\x03\x01\x00\x01", open(5))
	tells(t, "a message begun", "\x16\x03\x01\x00\x01\x01", open(6))
	tells(t, "a message begun in two records", "\x16\x03\x01\x00\x01\x01\x16\x03\x04\x00\x02\x00\x00", open(13))
	tells(t, "an empty hello", "\x16\x03\x01\x00\x04\x01\x00\x00\x00", bad(9, api.ErrForm))
	tells(t, "a message of another type", "\x16\x03\x01\x00\x01\x02", bad(6, api.ErrType))
	tells(t, "a great message", "\x16\x03\x01\x00\x04\x01\x00\x41", bad(8, api.ErrLength))
	const start = "\x03\x01" + "0123456789abcdef0123456789abcdef" + "\x00" + "\x00\x02\x00\x2f" + "\x01\x00"
	tells(t, "a bare hello", "\x16\x03\x01\x00\x2d\x01\x00\x00\x29"+start, done(50, "", api.Seen{}))
	tells(t, "a hello with a name", "\x16\x03\x03\x00\x39\x01\x00\x00\x35"+start+"\x00\x0a\x00\x00\x00\x06\x00\x04\x00\x00\x01A", done(62, "a", api.Seen{HasName: true, Name: "A"}))
}

// every tries each byte behind what came: from low to high it may be, else it's wrong by that reason.
func every(t *testing.T, ahead string, low, high int, reason api.Errno) {
	t.Helper()
	for c := range 256 {
		b := ahead + string([]byte{byte(c)})
		if c < low || c > high {
			tells(t, "a wrong byte", b, bad(len(b), reason))
			tells(t, "a wrong byte, and a hello", b+row(full().bytes(), most), bad(len(b), reason))
		} else {
			tells(t, "a byte", b, open(len(b)))
		}
	}
}

// TestRecordErrors tries each byte at each place of a record's head: of the first one, and of those behind which a message is begun.
func TestRecordErrors(t *testing.T) {
	for _, ahead := range []string{"", rec("\x01"), rec("\x01") + rec("\x00\x00"), rec(msg("abc")[:6]), framed(msg(full().bytes())[:100], 30)} {
		every(t, ahead, 0x16, 0x16, api.ErrType)
		every(t, ahead+"\x16", 3, 3, api.ErrVersion)
		every(t, ahead+"\x16\x03", 0, 4, api.ErrVersion)
		every(t, ahead+"\x16\x03\x04", 0, 0x40, api.ErrLength)
		every(t, ahead+"\x16\x03\x00\x00", 1, 255, api.ErrLength)
		every(t, ahead+"\x16\x03\x00\x3f", 0, 255, api.ErrLength)
		every(t, ahead+"\x16\x03\x00\x40", 0, 0, api.ErrLength)
	}
}

// TestMessageErrors tries each byte at each place of a message's head, in one record and in several.
func TestMessageErrors(t *testing.T) {
	for _, head := range []string{"\x16\x03\x01\x00\x04", "\x16\x03\x01\x01\x00", "\x16\x03\x01\x40\x00"} {
		every(t, head, 1, 1, api.ErrType)
		every(t, head+"\x01", 0, 0, api.ErrLength)
		every(t, head+"\x01\x00", 0, 0x40, api.ErrLength)
		every(t, head+"\x01\x00\x40", 0, 0, api.ErrLength)
	}
	every(t, "\x16\x03\x01\x00\x01", 1, 1, api.ErrType)
	every(t, rec("\x01")+"\x16\x03\x01\x00\x01", 0, 0, api.ErrLength)
	every(t, rec("\x01")+rec("\x00")+"\x16\x03\x01\x00\x01", 0, 0x40, api.ErrLength)
	every(t, rec("\x01")+rec("\x00\x40")+"\x16\x03\x01\x00\x01", 0, 0, api.ErrLength)
	every(t, rec("\x01\x00")+"\x16\x03\x01\x00\x07\x40", 0, 0, api.ErrLength)
}

// TestFirstWrong has both a record and a message that are wrong: the one that is known first is told.
func TestFirstWrong(t *testing.T) {
	tells(t, "the message", rec("\x02")+"\x17", bad(6, api.ErrType))
	tells(t, "the message, and the record's second byte", rec("\x02")+"\x16\x04", bad(6, api.ErrType))
	tells(t, "the message's number", rec("\x01\x00\x41")+"\x17", bad(8, api.ErrLength))
	tells(t, "the record's kind", rec("\x01\x00")+"\x17"+rec("\x41"), bad(8, api.ErrType))
	tells(t, "the record's version", rec("\x01\x00")+"\x16\x03\x05"+rec("\x41"), bad(10, api.ErrVersion))
	tells(t, "the record's number", rec("\x01\x00")+"\x16\x03\x04\x00\x00\x41", bad(12, api.ErrLength))
	tells(t, "the record, ahead of any message", "\x16\x03\x01\x40\x01\x02", bad(5, api.ErrLength))
	tells(t, "a record behind half a hello", rec(msg(sound().bytes())[:20])+"\x15\x03\x01", bad(26, api.ErrType))
}

// TestWholeInRecord has a message that ends within a record: what stands behind it, be that right or wrong, is not waited for.
func TestWholeInRecord(t *testing.T) {
	m := msg(full().bytes())
	for _, behind := range []string{"", "x", m, "\x16\x03", strings.Repeat("z", 1000)} {
		for _, size := range []int{len(m) + 1, len(m) + 1000, 1 << 13, most} {
			b := "\x16\x03\x02" + num(size) + m + behind
			tells(t, "in one record", b, fullVerdict(5+len(m)))
			b = rec(m[:9]) + "\x16\x03\x02" + num(size) + m[9:] + behind
			tells(t, "in two records", b, fullVerdict(10+len(m)))
			tells(t, "but for a byte", b[:9+len(m)], open(9+len(m)))
		}
	}
	tells(t, "a wrong one", "\x16\x03\x01\x00\x09\x01\x00\x00\x00", bad(9, api.ErrForm))
	tells(t, "an empty one, and its record's end", rec(msg("")+"abcde"), bad(9, api.ErrForm))
}

// TestCutAnywhere cuts a hello at each two places into records.
func TestCutAnywhere(t *testing.T) {
	m := msg(full().bytes())
	for i := 1; i < len(m)-1; i++ {
		tells(t, "in two", rec(m[:i])+rec(m[i:]), fullVerdict(len(m)+10))
		for k := i + 1; k < len(m); k += 7 {
			tells(t, "in three", rec(m[:i])+rec(m[i:k])+rec(m[k:])+"\x17", fullVerdict(len(m)+15))
		}
	}
}

// TestHello tells what a hello's extensions do.
func TestHello(t *testing.T) {
	none := sound()
	none.exts = ""
	body(t, "no row of extensions", none.bytes(), "", api.Seen{}, api.OK)
	body(t, "a row of none", sound().bytes(), "", api.Seen{}, api.OK)
	body(t, "all of them", full().bytes(), "www.example", fullVerdict(0).Seen, api.OK)
	body(t, "others", sound(ext(7, "ab"), ext(1, "")).bytes(), "", api.Seen{}, api.OK)
	body(t, "a name", sound(named("a.b")).bytes(), "a.b", api.Seen{HasName: true, Name: "a.b"}, api.OK)
	body(t, "protocols", sound(ext(16, "\x00\x03\x02h2")).bytes(), "", api.Seen{Alpn: []string{"h2"}}, api.OK)
	body(t, "versions", sound(ext(43, "\x02\x03\x04")).bytes(), "", api.Seen{Versions: []int{0x304}}, api.OK)
	body(t, "a hidden hello", sound(ext(0xfe0d, "")).bytes(), "", api.Seen{Ech: true}, api.OK)
	body(t, "protocols without a name", sound(ext(16, "\x00\x03\x02h2"), ext(0xfe0d, "")).bytes(), "", api.Seen{Alpn: []string{"h2"}, Ech: true}, api.OK)
	body(t, "two names, of two types", sound(ext(0, long("\x01"+long("b")+"\x00"+long("A")))).bytes(), "a", api.Seen{HasName: true, Name: "A"}, api.OK)
}

// TestHosts tells names as they came, and the host in its one form.
func TestHosts(t *testing.T) {
	for s, host := range map[string]string{
		"a": "a", "A": "a", "a.": "a", "WWW.Example.": "www.example", "x_1.a-b": "x_1.a-b", "1.2.3.4": "1.2.3.4", "::FFFF:102:304": "1.2.3.4", "0:0::A": "::a", "2001:DB8:0:0::A0": "2001:db8::a0",
		strings.Repeat("a.", 126) + "B.": strings.Repeat("a.", 126) + "b",
	} {
		body(t, s, sound(named(s)).bytes(), host, api.Seen{HasName: true, Name: s}, api.OK)
	}
	for s, reason := range map[string]api.Errno{
		".": api.ErrNone, "..": api.ErrName, "a..b": api.ErrName, "-a": api.ErrName, "a.12": api.ErrName, "a:80": api.ErrName, "[::1]": api.ErrName, "*.a": api.ErrName, "1.2.3.4.": api.ErrName,
		strings.Repeat("a", 64): api.ErrName, strings.Repeat("a", 254): api.ErrLength, strings.Repeat("a", 255): api.ErrLength,
	} {
		refused(t, s, sound(named(s)).bytes(), reason)
	}
}

// TestHelloErrors has each error of a hello, of its extensions and of its name.
func TestHelloErrors(t *testing.T) {
	refused(t, "nothing", "", api.ErrForm)
	refused(t, "a byte", "\x03", api.ErrForm)
	for i := range full().bytes() {
		if i != len(full().bytes())-len(full().exts) { // there it has no row of extensions
			refused(t, "cut short", full().bytes()[:i], api.ErrForm)
		}
	}
	refused(t, "a byte behind", full().bytes()+"\x00", api.ErrForm)
	for _, w := range []struct {
		what   string
		turn   func(p *parts)
		reason api.Errno
	}{
		{"another version", func(p *parts) { p.version = "\x02\x03" }, api.ErrVersion},
		{"a long session", func(p *parts) { p.session = short(mixed(33)) }, api.ErrLength},
		{"no plain method", func(p *parts) { p.methods = short("\x01") }, api.ErrNone},
		{"a kind twice", func(p *parts) { p.exts = long(ext(7, "") + ext(7, "a")) }, api.ErrTwice},
		{"two names, each of an extension", func(p *parts) { p.exts = long(named("a") + named("b")) }, api.ErrTwice},
		{"a name's form", func(p *parts) { p.exts = long(ext(0, "")) }, api.ErrForm},
		{"a name twice", func(p *parts) { p.exts = long(ext(0, long("\x00"+long("a")+"\x00"+long("b")))) }, api.ErrTwice},
		{"no name of that type", func(p *parts) { p.exts = long(ext(0, long("\x01"+long("a")))) }, api.ErrNone},
		{"an empty name", func(p *parts) { p.exts = long(named("")) }, api.ErrName},
		{"a name that is not visible", func(p *parts) { p.exts = long(named("a b")) }, api.ErrName},
		{"a long name", func(p *parts) { p.exts = long(named(strings.Repeat("a", 256))) }, api.ErrName},
		{"the protocols' form", func(p *parts) { p.exts = long(named("a") + ext(16, "\x00\x00")) }, api.ErrForm},
		{"the versions' form", func(p *parts) { p.exts = long(named("a") + ext(43, "\x01\x03")) }, api.ErrForm},
		{"a name of no host", func(p *parts) { p.exts = long(named("a.1")) }, api.ErrName},
		{"a name of a dot", func(p *parts) { p.exts = long(named(".")) }, api.ErrNone},
		{"a name of many bytes", func(p *parts) { p.exts = long(named(strings.Repeat("a", 255))) }, api.ErrLength},
	} {
		p := full()
		w.turn(&p)
		refused(t, w.what, p.bytes(), w.reason)
	}
}

// TestFirstError has errors of a hello, its extensions and its name at once: the first one is told.
func TestFirstError(t *testing.T) {
	p := sound(named("a.1"), ext(43, ""))
	refused(t, "versions and a name of no host", p.bytes(), api.ErrForm)
	p = sound(ext(16, ""), named("."))
	refused(t, "protocols and a name of no host", p.bytes(), api.ErrForm)
	p = sound(ext(16, ""), named(""))
	refused(t, "protocols and a wrong name", p.bytes(), api.ErrName)
	p = sound(named("."), ext(16, ""))
	p.version = "\x04\x00"
	refused(t, "a version, protocols and a name", p.bytes(), api.ErrVersion)
	p = sound(named("."), ext(7, ""), ext(7, ""))
	refused(t, "a kind twice, and a name", p.bytes(), api.ErrTwice)
	p = sound(named(strings.Repeat("a", 255)))
	p.methods = short("\x01")
	refused(t, "methods and a name", p.bytes(), api.ErrNone)
	p.session = short(mixed(33))
	refused(t, "a session, methods and a name", p.bytes(), api.ErrLength)
	refused(t, "a byte behind all that", p.bytes()+"\x00", api.ErrForm)
}

// TestGreatest has the greatest message, in records of the least, the greatest, and other sizes; a greater one is none.
func TestGreatest(t *testing.T) {
	left := most - len(sound(named("a"), ext(7, "")).bytes())
	p := sound(named("a"), ext(7, strings.Repeat("z", left)))
	body(t, "the greatest", p.bytes(), "a", api.Seen{HasName: true, Name: "a"}, api.OK)
	p = sound(named("a"), ext(7, strings.Repeat("z", left+1)))
	tells(t, "a greater one", row(p.bytes(), 1000), bad(9, api.ErrLength))
	tells(t, "a greater one, byte by byte", row(p.bytes(), 1), bad(24, api.ErrLength))
	refused(t, "the greatest of nothing", strings.Repeat("\x00", most), api.ErrForm)
}

// P15.2

// TestTakeStays brings all bytes, and another hello, behind what is known.
func TestTakeStays(t *testing.T) {
	r := row(full().bytes(), 50)
	for b, want := range map[string]api.Verdict{
		r:                                      fullVerdict(len(r)),
		row(sound().bytes(), most):             done(len(row(sound().bytes(), most)), "", api.Seen{}),
		"\x17":                                 bad(1, api.ErrType),
		"\x16\x04":                             bad(2, api.ErrVersion),
		rec("\x01\x00\x41"):                    bad(8, api.ErrLength),
		row("", 9):                             bad(9, api.ErrForm),
		row(sound(named("a.1")).bytes(), most): bad(len(row(sound(named("a.1")).bytes(), most)), api.ErrName),
	} {
		tells(t, "and another hello", b+r+"\x17", want)
		p := tlspeek.New()
		for i := range len(b) {
			p.Take(b[i])
		}
		for c := range 1000 {
			if got := p.Take(byte(c)); !same(got, want) {
				t.Fatalf("byte %d behind %.40x: %+v, not %+v", c, b, got, want)
			}
		}
	}
}

// TestApart brings bytes to peekers by turns.
func TestApart(t *testing.T) {
	one, other, third := tlspeek.New(), tlspeek.New(), tlspeek.New()
	r, s := row(full().bytes(), 50), row(sound(named("B")).bytes(), 7)
	for i := range max(len(r), len(s)) + 5 {
		a, b := min(i, len(r)-1), min(i, len(s)-1)
		if got, want := one.Take(r[a]), opinion(r[:a+1]); !same(got, want) {
			t.Fatalf("the one, byte %d: %+v, not %+v", i, got, want)
		}
		if got, want := other.Take(s[b]), opinion(s[:b+1]); !same(got, want) {
			t.Fatalf("the other, byte %d: %+v, not %+v", i, got, want)
		}
		if got := third.Take(0); !same(got, bad(1, api.ErrType)) {
			t.Fatalf("the third, byte %d: %+v", i, got)
		}
	}
}

// P15.3

// spoil writes over the lists of v, their spare room too.
func spoil(v api.Verdict) {
	l := v.Seen.Alpn[:cap(v.Seen.Alpn)]
	for i := range l {
		l[i] = "other"
	}
	n := v.Seen.Versions[:cap(v.Seen.Versions)]
	for i := range n {
		n[i] = -1
	}
}

// texts are all texts of v.
func texts(v api.Verdict) []string { return append([]string{v.Host, v.Seen.Name}, v.Seen.Alpn...) }

// share says whether two texts lie in one memory.
func share(a, b string) bool {
	return a != "" && b != "" && unsafe.StringData(a) == unsafe.StringData(b)
}

// TestAnswersApart spoils each answer: those ahead of it and behind it stay.
func TestAnswersApart(t *testing.T) {
	r := row(full().bytes(), 50)
	p := tlspeek.New()
	var all []api.Verdict
	for i := range len(r) + 5 {
		v := p.Take(r[min(i, len(r)-1)])
		if i < len(r)-1 {
			continue
		}
		for _, ahead := range all {
			for k, s := range texts(ahead) {
				if share(s, texts(v)[k]) {
					t.Errorf("the text %q is in two answers", s)
				}
			}
			spoil(ahead)
		}
		if !same(v, fullVerdict(len(r))) {
			t.Fatalf("the answer became %+v", v)
		}
		spoil(p.Take(0))
		if !same(v, fullVerdict(len(r))) {
			t.Fatalf("an answer became %+v", v)
		}
		all = append(all, v)
	}
}

// TestAllMemory spoils what was handed in, and one of two answers.
func TestAllMemory(t *testing.T) {
	r := row(full().bytes(), most)
	b := []byte(r)
	one, two := tlspeek.All(b), tlspeek.All(b)
	spoil(two)
	if string(b) != r {
		t.Errorf("what was handed in became %x", b)
	}
	for i := range b {
		b[i] = ^b[i]
	}
	if !same(one, fullVerdict(len(r))) {
		t.Errorf("the answer became %+v", one)
	}
}

// P15.4

// TestNothingAhead has hellos that are wrong from an early byte on, or could tell no more: they are known at their last byte.
func TestNothingAhead(t *testing.T) {
	p := full()
	p.version = "\x02\x03"
	refused(t, "a version", p.bytes(), api.ErrVersion)
	refused(t, "no hello at all", strings.Repeat("\xff", 300), api.ErrForm)
	refused(t, "too short for a hello", "\x03", api.ErrForm)
	p = sound(named("a"), ext(7, mixed(1000)))
	body(t, "a name long ahead of the end", p.bytes(), "a", api.Seen{HasName: true, Name: "a"}, api.OK)
	p = sound(named("."), ext(7, mixed(1000)))
	refused(t, "no name long ahead of the end", p.bytes(), api.ErrNone)
}

// TestNoMoreBytes lays bytes without an order behind what is known, and behind what is not.
func TestNoMoreBytes(t *testing.T) {
	r := row(full().bytes(), 50)
	for n := range 60 {
		tells(t, "and more", r+mixed(n), fullVerdict(len(r)))
		tells(t, "and more", "\x16\x02"+mixed(n), bad(2, api.ErrVersion))
		held(t, r[:len(r)-n]+mixed(n))
	}
}

// TestTurned turns a byte of a hello, at each place, into each other.
func TestTurned(t *testing.T) {
	for _, r := range []string{row(sound(named("a.b")).bytes(), most), row(full().bytes(), 60), rec("\x01") + rec("\x00") + rec("\x00") + "\x16\x03\x04\x40\x00" + msg(full().bytes())[3:]} {
		for i := range len(r) {
			b := []byte(r)
			for c := range 256 {
				b[i] = byte(c)
				held(t, string(b))
			}
		}
	}
}

// TestLikely holds rows of likely bytes, in records and out of them, against the second opinion.
func TestLikely(t *testing.T) {
	source := rand.New(rand.NewSource(15))
	likely := func(n int) string {
		var b []byte
		for range source.Intn(n) {
			b = append(b, "\x16\x16\x03\x03\x00\x00\x01\x01\x02\x04\x40\x41"[source.Intn(12)])
		}
		return string(b)
	}
	for range 20000 {
		held(t, likely(12))
		held(t, rec("\x01\x00"+likely(9))+likely(9))
		held(t, row(likely(9), 1+source.Intn(9))+likely(9))
		p := sound(ext(source.Intn(2), likely(9)), named(likely(3)+"a"), ext(16, likely(5)), ext(43, likely(5)))
		held(t, row(p.bytes(), 1+source.Intn(200))+likely(9))
	}
}

// W1

// TestMany has far more bytes than are needed.
func TestMany(t *testing.T) {
	const n = 1 << 22
	r := row(full().bytes(), most)
	tells(t, "behind a hello", r+strings.Repeat("\x16", n), fullVerdict(len(r)))
	tells(t, "behind an error", strings.Repeat("\x17", n), bad(1, api.ErrType))
	tells(t, "errors of a version", strings.Repeat("\x16", n), bad(2, api.ErrVersion))
}

func FuzzRows(f *testing.F) {
	f.Add([]byte(row(full().bytes(), 50)), 9)
	f.Add([]byte(row(sound(named("a.1")).bytes(), most)+"more"), 1)
	f.Add([]byte(full().bytes()), 7)
	f.Add([]byte("\x16\x03\x03\x40\x00\x01\x00\x00\x00"), most)
	f.Add([]byte("\x17"), -1)
	f.Fuzz(func(t *testing.T, b []byte, size int) {
		held(t, string(b))
		size = min(max(size, 1), most)
		held(t, framed(string(b), size))
		if len(b) <= most {
			held(t, row(string(b), size))
		}
	})
}
