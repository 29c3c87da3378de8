package hello_test

import (
	"bytes"
	"math/rand"
	"slices"
	"strings"
	"testing"

	"hagioscope/api"
	"hagioscope/hello"
)

// num is a number of two bytes.
func num(n int) string { return string([]byte{byte(n >> 8), byte(n)}) }

// short is a vector of one, long a vector of two.
func short(x string) string { return string([]byte{byte(len(x))}) + x }
func long(x string) string  { return num(len(x)) + x }

// ext is the bytes of an extension.
func ext(kind int, data string) string { return num(kind) + long(data) }

// parts is a hello's bytes, part by part, so that a test may take another for one of them.
type parts struct{ version, random, session, ciphers, methods, exts string }

// sound is parts that make a hello: the lengths of all of them differ.
func sound() parts {
	return parts{
		version: "\x03\x03",
		random:  mixed(32),
		session: short("abcde"),
		ciphers: long("\x13\x01\x00\x2f\xff\xff"),
		methods: short("\x01\x00"),
		exts:    long(ext(0, "name") + ext(0xfe0d, "") + ext(43, "\x02\x03\x04")),
	}
}

// bytes is all parts, one behind the other.
func (p parts) bytes() string {
	return p.version + p.random + p.session + p.ciphers + p.methods + p.exts
}

// bare is the bytes of all parts ahead of the extensions.
func (p parts) bare() string { return strings.TrimSuffix(p.bytes(), p.exts) }

// cut takes a number of that size, and as many bytes, from b at a place; or answers false.
func cut(b string, at *int, size int) (string, bool) {
	n := 0
	for range size {
		if *at >= len(b) {
			return "", false
		}
		n = n*256 + int(b[*at])
		*at++
	}
	if len(b)-*at < n {
		return "", false
	}
	*at += n
	return b[*at-n : *at], true
}

// opinion is a second opinion on b, which counts places.
func opinion(b string) (api.Hello, api.Errno) {
	var h api.Hello
	if len(b) < 34 {
		return h, api.ErrForm
	}
	at := 34
	session, ok1 := cut(b, &at, 1)
	ciphers, ok2 := cut(b, &at, 2)
	methods, ok3 := cut(b, &at, 1)
	if !ok1 || !ok2 || !ok3 || len(ciphers) < 2 || len(ciphers)%2 == 1 || methods == "" {
		return h, api.ErrForm
	}
	exts, has := "", at < len(b)
	if has {
		var ok bool
		if exts, ok = cut(b, &at, 2); !ok || at < len(b) {
			return h, api.ErrForm
		}
	}
	h = api.Hello{Version: int(b[0])*256 + int(b[1]), Random: [32]byte([]byte(b[2:34])), Session: []byte(session), Methods: []byte(methods), HasExts: has}
	for i := 0; i < len(ciphers); i += 2 {
		h.Ciphers = append(h.Ciphers, int(ciphers[i])*256+int(ciphers[i+1]))
	}
	two := false
	for i := 0; i < len(exts); {
		if len(exts)-i < 2 {
			return api.Hello{}, api.ErrForm
		}
		kind := int(exts[i])*256 + int(exts[i+1])
		i += 2
		data, ok := cut(exts, &i, 2)
		if !ok {
			return api.Hello{}, api.ErrForm
		}
		two = two || slices.ContainsFunc(h.Exts, func(x api.Ext) bool { return x.Kind == kind })
		h.Exts = append(h.Exts, api.Ext{Kind: kind, Data: []byte(data)})
	}
	for _, e := range []struct {
		is    bool
		fault api.Errno
	}{{b[0] != 3, api.ErrVersion}, {len(session) > 32, api.ErrLength}, {!strings.Contains(methods, "\x00"), api.ErrNone}, {two, api.ErrTwice}} {
		if e.is {
			return api.Hello{}, e.fault
		}
	}
	return h, api.OK
}

// same says whether two hellos are the same: lists without anything in them are.
func same(a, b api.Hello) bool {
	return a.Version == b.Version && a.Random == b.Random && bytes.Equal(a.Session, b.Session) &&
		slices.Equal(a.Ciphers, b.Ciphers) && bytes.Equal(a.Methods, b.Methods) && a.HasExts == b.HasExts &&
		slices.EqualFunc(a.Exts, b.Exts, func(x, y api.Ext) bool { return x.Kind == y.Kind && bytes.Equal(x.Data, y.Data) })
}

// mixed is n bytes without an order, the same ones in each run.
func mixed(n int) string {
	out := make([]byte, n)
	rand.New(rand.NewSource(9)).Read(out)
	return string(out)
}

// spoil writes over b and its spare room.
func spoil[T byte | int](b []T) {
	b = b[:cap(b)]
	for i := range b {
		b[i] = ^b[i]
	}
}

// spoilAll writes over all that h has.
func spoilAll(h api.Hello) {
	spoil(h.Session)
	spoil(h.Ciphers)
	spoil(h.Methods)
	for _, x := range h.Exts {
		spoil(x.Data)
	}
	exts := h.Exts[:cap(h.Exts)]
	for i := range exts {
		exts[i] = api.Ext{Kind: -1}
	}
}

// held holds Parse of b against the second opinion, and Print and Find against what was parsed.
func held(t *testing.T, b string) {
	t.Helper()
	h, e := hello.Parse([]byte(b))
	want, fault := opinion(b)
	if e != fault || !same(h, want) {
		t.Fatalf("Parse of %d bytes, %.80x: %+v %d, not %+v %d", len(b), b, h, e, want, fault)
	}
	if e == api.OK {
		prints(t, h, b)
		finds(t, h)
	}
}

// fails fails if b is not refused by that error.
func fails(t *testing.T, what, b string, fault api.Errno) {
	t.Helper()
	if h, e := hello.Parse([]byte(b)); e != fault || !same(h, api.Hello{}) {
		t.Errorf("%s: Parse is %+v %d, not error %d", what, h, e, fault)
	}
}

// parsed is the hello that b is.
func parsed(t *testing.T, b string) api.Hello {
	t.Helper()
	h, e := hello.Parse([]byte(b))
	if e != api.OK {
		t.Fatalf("Parse of %d bytes, %.80x: error %d", len(b), b, e)
	}
	return h
}

// prints fails if Print of h is not b.
func prints(t *testing.T, h api.Hello, b string) {
	t.Helper()
	if got, ok := hello.Print(h); string(got) != b || !ok {
		t.Fatalf("Print: %d bytes, %.80x, %t, not %d bytes, %.80x", len(got), got, ok, len(b), b)
	}
}

// unprinted fails if there are bytes that tell h.
func unprinted(t *testing.T, what string, h api.Hello) {
	t.Helper()
	if got, ok := hello.Print(h); len(got) != 0 || ok {
		t.Errorf("%s: Print is %d bytes, %.80x, %t", what, len(got), got, ok)
	}
}

// finds asks h for each kind that it has, and for those beside them.
func finds(t *testing.T, h api.Hello) {
	t.Helper()
	for _, x := range h.Exts {
		for kind := x.Kind - 1; kind <= x.Kind+1; kind++ {
			i := slices.IndexFunc(h.Exts, func(x api.Ext) bool { return x.Kind == kind })
			var want []byte
			if i >= 0 {
				want = h.Exts[i].Data
			}
			if got, ok := hello.Find(h, kind); !bytes.Equal(got, want) || ok != (i >= 0) {
				t.Fatalf("Find of kind %d: %.20x %t", kind, got, ok)
			}
		}
	}
}

// P9.1

// TestParts looks at each part of a hello that is written out.
func TestParts(t *testing.T) {
	h := parsed(t, sound().bytes())
	want := api.Hello{
		Version: 0x303, Random: [32]byte([]byte(mixed(32))), Session: []byte("abcde"), Ciphers: []int{0x1301, 0x2f, 0xffff}, Methods: []byte{1, 0}, HasExts: true,
		Exts: []api.Ext{{Kind: 0, Data: []byte("name")}, {Kind: 0xfe0d}, {Kind: 43, Data: []byte{2, 3, 4}}},
	}
	if !same(h, want) {
		t.Errorf("%+v", h)
	}
}

// TestLeast takes the least hello, as the document counts it, and those with a row of extensions that is empty, or of one.
func TestLeast(t *testing.T) {
	b := "\x03\x00" + strings.Repeat("\x00", 32) + "\x00" + "\x00\x02\x00\x00" + "\x01\x00"
	if len(b) != 41 {
		t.Fatalf("%d bytes", len(b))
	}
	want := api.Hello{Version: 0x300, Ciphers: []int{0}, Methods: []byte{0}}
	if h := parsed(t, b); !same(h, want) {
		t.Errorf("the least: %+v", h)
	}
	want.HasExts = true
	if h := parsed(t, b+"\x00\x00"); !same(h, want) {
		t.Errorf("with an empty row: %+v", h)
	}
	want.Exts = []api.Ext{{}}
	if h := parsed(t, b+"\x00\x04\x00\x00\x00\x00"); !same(h, want) {
		t.Errorf("with an extension: %+v", h)
	}
}

// TestCut takes each beginning of a hello: just the one without its extensions, and all of it, are hellos.
func TestCut(t *testing.T) {
	p := sound()
	b := p.bytes()
	for n := range b {
		if n == len(p.bare()) {
			held(t, b[:n])
			parsed(t, b[:n])
			continue
		}
		fails(t, "a beginning", b[:n], api.ErrForm)
	}
	held(t, b)
	fails(t, "none", "", api.ErrForm)
	if _, e := hello.Parse(nil); e != api.ErrForm {
		t.Errorf("nil: error %d", e)
	}
}

// TestBehind brings bytes behind hellos: one byte can't be a row of extensions, and behind one is nothing.
func TestBehind(t *testing.T) {
	p := sound()
	for c := range 256 {
		fails(t, "a byte behind", p.bytes()+string([]byte{byte(c)}), api.ErrForm)
	}
	fails(t, "a second row", p.bytes()+"\x00\x00", api.ErrForm)
	p.exts = "\x00\x00"
	parsed(t, p.bytes())
	fails(t, "a byte behind an empty row", p.bytes()+"\x00", api.ErrForm)
	fails(t, "an empty row twice", p.bytes()+"\x00\x00", api.ErrForm)
	p.exts = ""
	for c := range 256 {
		fails(t, "a byte for a row", p.bytes()+string([]byte{byte(c)}), api.ErrForm)
	}
}

// TestForm takes another part for one at a time: those that are laid out wrongly, and those at the edges.
func TestForm(t *testing.T) {
	for _, w := range []struct {
		what string
		turn func(p *parts)
		want api.Errno
	}{
		{"no session", func(p *parts) { p.session = short("") }, api.OK},
		{"no bytes of a session", func(p *parts) { p.session = "" }, api.ErrForm},
		{"a session with too many", func(p *parts) { p.session = "\xff" }, api.ErrForm},
		{"no ciphers", func(p *parts) { p.ciphers = long("") }, api.ErrForm},
		{"half a cipher", func(p *parts) { p.ciphers = long("a") }, api.ErrForm},
		{"one cipher", func(p *parts) { p.ciphers = long("ab") }, api.OK},
		{"one and a half", func(p *parts) { p.ciphers = long("abc") }, api.ErrForm},
		{"the same ciphers", func(p *parts) { p.ciphers = long("abab") }, api.OK},
		{"most ciphers", func(p *parts) { p.ciphers = long(strings.Repeat("ab", 32767)) }, api.OK},
		{"ciphers of 65535 bytes", func(p *parts) { p.ciphers = long(mixed(65535)) }, api.ErrForm},
		{"no methods", func(p *parts) { p.methods = short("") }, api.ErrForm},
		{"one method", func(p *parts) { p.methods = short("\x00") }, api.OK},
		{"the same methods", func(p *parts) { p.methods = short("\x00\x00") }, api.OK},
		{"most methods", func(p *parts) { p.methods = short(strings.Repeat("\x01", 254) + "\x00") }, api.OK},
		{"no row", func(p *parts) { p.exts = "" }, api.OK},
		{"an empty row", func(p *parts) { p.exts = long("") }, api.OK},
		{"a byte in a row", func(p *parts) { p.exts = long("\x00") }, api.ErrForm},
		{"a kind in a row", func(p *parts) { p.exts = long("\x00\x07") }, api.ErrForm},
		{"half a number in a row", func(p *parts) { p.exts = long("\x00\x07\x00") }, api.ErrForm},
		{"an empty extension", func(p *parts) { p.exts = long(ext(7, "")) }, api.OK},
		{"one without its last byte", func(p *parts) { p.exts = long("\x00\x07\x00\x01") }, api.ErrForm},
		{"one with a byte behind", func(p *parts) { p.exts = long(ext(7, "a") + "\x00") }, api.ErrForm},
		{"a second one cut", func(p *parts) { p.exts = long(ext(7, "a") + ext(8, "bc")[:5]) }, api.ErrForm},
		{"one past the row", func(p *parts) { p.exts = "\x00\x05" + ext(7, "ab") }, api.ErrForm},
		{"a row past the end", func(p *parts) { p.exts = "\x00\x07" + ext(7, "ab") }, api.ErrForm},
		{"a row in a row", func(p *parts) { p.exts = long(long(ext(7, "a"))) }, api.ErrForm},
		{"the longest extension", func(p *parts) { p.exts = long(ext(7, mixed(65531))) }, api.OK},
		{"two with all bytes", func(p *parts) { p.exts = long(ext(7, mixed(65527)) + ext(8, "")) }, api.OK},
	} {
		p := sound()
		w.turn(&p)
		held(t, p.bytes())
		if _, e := hello.Parse([]byte(p.bytes())); e != w.want {
			t.Errorf("%s: error %d, not %d", w.what, e, w.want)
		}
	}
}

// TestVersions takes all versions.
func TestVersions(t *testing.T) {
	p := sound()
	for n := range 1 << 16 {
		p.version = num(n)
		if n>>8 != 3 {
			fails(t, "another version", p.bytes(), api.ErrVersion)
		} else if h := parsed(t, p.bytes()); h.Version != n {
			t.Errorf("version %x is %x", n, h.Version)
		}
	}
}

// TestSessions takes sessions of all lengths.
func TestSessions(t *testing.T) {
	p := sound()
	for n := range 256 {
		p.session = short(mixed(n))
		if n > 32 {
			fails(t, "a long session", p.bytes(), api.ErrLength)
		} else if h := parsed(t, p.bytes()); string(h.Session) != mixed(n) {
			t.Errorf("a session of %d bytes is %x", n, h.Session)
		}
	}
}

// TestMethods takes each method alone, ahead of the one that must be there, and behind it.
func TestMethods(t *testing.T) {
	p := sound()
	for c := range 256 {
		one := string([]byte{byte(c)})
		p.methods = short(one)
		if c != 0 {
			fails(t, "a method", p.bytes(), api.ErrNone)
			p.methods = short(strings.Repeat(one, 255))
			fails(t, "all methods", p.bytes(), api.ErrNone)
		}
		for _, x := range []string{one + "\x00", "\x00" + one, one + one + "\x00" + one} {
			p.methods = short(x)
			if h := parsed(t, p.bytes()); string(h.Methods) != x {
				t.Errorf("methods %x are %x", x, h.Methods)
			}
		}
	}
}

// TestKinds takes all kinds: once each, and one of them twice, near and far, with the same Data and with another.
func TestKinds(t *testing.T) {
	p := sound()
	for kind := range 1 << 16 {
		p.exts = long(ext(kind, "a"))
		if h := parsed(t, p.bytes()); h.Exts[0].Kind != kind {
			t.Errorf("kind %d is %d", kind, h.Exts[0].Kind)
		}
		p.exts = long(ext(kind, "a") + ext(kind, "a"))
		fails(t, "a kind twice", p.bytes(), api.ErrTwice)
		p.exts = long(ext(kind, "a") + ext(kind^1, "") + ext(kind^256, "") + ext(kind, ""))
		fails(t, "a kind again", p.bytes(), api.ErrTwice)
	}
}

// TestManyKinds takes as many extensions as a row can hold.
func TestManyKinds(t *testing.T) {
	p := sound()
	var row strings.Builder
	for kind := range 65535 / 4 {
		row.WriteString(ext(kind*4, ""))
	}
	p.exts = long(row.String())
	if h := parsed(t, p.bytes()); len(h.Exts) != 65535/4 || h.Exts[9].Kind != 36 {
		t.Errorf("%d extensions", len(h.Exts))
	}
	prints(t, parsed(t, p.bytes()), p.bytes())
	p.exts = long(row.String()[4:] + ext(4, ""))
	fails(t, "the first one again, last", p.bytes(), api.ErrTwice)
}

// TestFirstError has, of the errors in order, each set of them: the first one is told.
func TestFirstError(t *testing.T) {
	errs := []api.Errno{api.ErrForm, api.ErrVersion, api.ErrLength, api.ErrNone, api.ErrTwice}
	for set := range 1 << len(errs) {
		p, want := sound(), api.OK
		for i := len(errs) - 1; i >= 0; i-- {
			if set>>i&1 == 1 {
				want = errs[i]
			}
		}
		if set>>1&1 == 1 {
			p.version = "\x02\x03"
		}
		if set>>2&1 == 1 {
			p.session = short(mixed(33))
		}
		if set>>3&1 == 1 {
			p.methods = short("\x01\x02")
		}
		if set>>4&1 == 1 {
			p.exts = long(ext(7, "") + ext(7, "a"))
		}
		b := p.bytes()
		if set&1 == 1 {
			b += "\x00"
		}
		held(t, b)
		if _, e := hello.Parse([]byte(b)); e != want {
			t.Errorf("set %b: error %d, not %d", set, e, want)
		}
	}
}

// TestFormFirst lays parts out wrongly behind what is told by other errors, one part at a time.
func TestFormFirst(t *testing.T) {
	for _, turn := range []func(p *parts){
		func(p *parts) { p.ciphers = long("") },
		func(p *parts) { p.ciphers = long("abc") },
		func(p *parts) { p.methods = short("") },
		func(p *parts) { p.exts = "\x00" },
		func(p *parts) { p.exts = long("\x00\x07\x00") },
		func(p *parts) { p.exts = long(ext(7, "") + ext(7, "") + "\x00") },
	} {
		p := sound()
		p.version, p.session, p.methods = "\x04\x00", short(mixed(200)), short("\x01")
		turn(&p)
		fails(t, "a wrong form among other errors", p.bytes(), api.ErrForm)
	}
}

// P9.2

func TestPrintWritten(t *testing.T) {
	h := api.Hello{Version: 0x301, Random: [32]byte([]byte(mixed(32))), Session: []byte("s"), Ciphers: []int{1, 65535, 1}, Methods: []byte{1, 0}}
	b := "\x03\x01" + mixed(32) + "\x01s" + "\x00\x06\x00\x01\xff\xff\x00\x01" + "\x02\x01\x00"
	prints(t, h, b)
	h.HasExts = true
	prints(t, h, b+"\x00\x00")
	h.Exts = []api.Ext{{Kind: 0xfe0d}, {Kind: 7, Data: []byte("ab")}}
	prints(t, h, b+"\x00\x0a\xfe\x0d\x00\x00\x00\x07\x00\x02ab")
}

// TestNilAndEmpty prints lists that are nil, and those that are empty, alike.
func TestNilAndEmpty(t *testing.T) {
	h := api.Hello{Version: 0x303, Ciphers: []int{7}, Methods: []byte{0}}
	b := "\x03\x03" + strings.Repeat("\x00", 32) + "\x00\x00\x02\x00\x07\x01\x00"
	prints(t, h, b)
	h.Session, h.Exts = []byte{}, []api.Ext{}
	prints(t, h, b)
	h.HasExts = true
	prints(t, h, b+"\x00\x00")
	h.Exts = []api.Ext{{Kind: 1, Data: nil}, {Kind: 2, Data: []byte{}}}
	prints(t, h, b+"\x00\x08\x00\x01\x00\x00\x00\x02\x00\x00")
	h.Ciphers = []int{}
	unprinted(t, "no ciphers", h)
	h.Ciphers, h.Methods = []int{7}, []byte{}
	unprinted(t, "no methods", h)
}

// ends are numbers that two bytes can't tell.
var ends = []int{api.MinInt, api.MinInt + 0x303, -1 << 32, -65536, -1, 65536, 65536 + 0x303, 1 << 24, 1 << 32, 1<<32 + 7, api.MaxInt}

// TestPrintEdges takes another part for one of a hello: those that can be told, and those that can't.
func TestPrintEdges(t *testing.T) {
	row := func(n int) func(h *api.Hello) {
		return func(h *api.Hello) { h.Exts = []api.Ext{{Kind: 7, Data: make([]byte, n)}} }
	}
	for _, w := range []struct {
		what string
		turn func(h *api.Hello)
		is   bool
	}{
		{"as it is", func(h *api.Hello) {}, true},
		{"the least version", func(h *api.Hello) { h.Version = 0x300 }, true},
		{"the greatest version", func(h *api.Hello) { h.Version = 0x3ff }, true},
		{"a lower version", func(h *api.Hello) { h.Version = 0x2ff }, false},
		{"a higher version", func(h *api.Hello) { h.Version = 0x400 }, false},
		{"no version", func(h *api.Hello) { h.Version = 0 }, false},
		{"a small version", func(h *api.Hello) { h.Version = 3 }, false},
		{"a longest session", func(h *api.Hello) { h.Session = make([]byte, 32) }, true},
		{"a longer session", func(h *api.Hello) { h.Session = make([]byte, 33) }, false},
		{"a session past its vector", func(h *api.Hello) { h.Session = make([]byte, 256) }, false},
		{"no ciphers", func(h *api.Hello) { h.Ciphers = nil }, false},
		{"most ciphers", func(h *api.Hello) { h.Ciphers = make([]int, 32767) }, true},
		{"more ciphers", func(h *api.Hello) { h.Ciphers = make([]int, 32768) }, false},
		{"no methods", func(h *api.Hello) { h.Methods = nil }, false},
		{"another method", func(h *api.Hello) { h.Methods = []byte{1} }, false},
		{"most methods", func(h *api.Hello) { h.Methods = make([]byte, 255) }, true},
		{"more methods", func(h *api.Hello) { h.Methods = make([]byte, 256) }, false},
		{"extensions without a row", func(h *api.Hello) { h.HasExts = false }, false},
		{"no row", func(h *api.Hello) { h.HasExts, h.Exts = false, nil }, true},
		{"a row of none", func(h *api.Hello) { h.Exts = nil }, true},
		{"a kind twice", func(h *api.Hello) { h.Exts = []api.Ext{{Kind: 7}, {Kind: 8}, {Kind: 7, Data: []byte("a")}} }, false},
		{"the longest extension", row(65531), true},
		{"a longer one", row(65532), false},
		{"one of all bytes", row(65535), false},
		{"one past all bytes", row(65536), false},
		{"a full row", func(h *api.Hello) { h.Exts = []api.Ext{{Data: make([]byte, 65520)}, {Kind: 1, Data: make([]byte, 7)}} }, true},
		{"a full row, and one behind it", func(h *api.Hello) { h.Exts = []api.Ext{{Data: make([]byte, 65531)}, {Kind: 1}} }, false},
		{"a row past full", func(h *api.Hello) { h.Exts = []api.Ext{{Data: make([]byte, 65520)}, {Kind: 1, Data: make([]byte, 8)}} }, false},
	} {
		h := parsed(t, sound().bytes())
		w.turn(&h)
		if !w.is {
			unprinted(t, w.what, h)
			continue
		}
		b, ok := hello.Print(h)
		if !ok {
			t.Errorf("%s: not printed", w.what)
		}
		if back, e := opinion(string(b)); e != api.OK || !same(back, h) {
			t.Errorf("%s: printed as %d bytes, %.80x", w.what, len(b), b)
		}
	}
}

// TestPrintNumbers puts numbers past two bytes at each place of a hello that has one.
func TestPrintNumbers(t *testing.T) {
	for _, n := range ends {
		h := parsed(t, sound().bytes())
		h.Version = n
		unprinted(t, "a version past its bytes", h)
		for i := range 3 {
			h = parsed(t, sound().bytes())
			h.Ciphers[i] = n
			unprinted(t, "a cipher past its bytes", h)
			h = parsed(t, sound().bytes())
			h.Exts[i].Kind = n
			unprinted(t, "a kind past its bytes", h)
		}
	}
}

// TestPrintMany has far more bytes in its extensions than were handed in: they all have one Data.
func TestPrintMany(t *testing.T) {
	h := api.Hello{Version: 0x303, Ciphers: []int{1}, Methods: []byte{0}, HasExts: true, Exts: make([]api.Ext, 1<<16)}
	data := make([]byte, 65535)
	for i := range h.Exts {
		h.Exts[i] = api.Ext{Kind: i, Data: data}
	}
	unprinted(t, "too many", h)
	for i := range h.Exts {
		h.Exts[i].Data = nil
	}
	unprinted(t, "too many empty ones", h)
	h.Exts = h.Exts[:65535/4]
	if b, ok := hello.Print(h); len(b) != 43+65532 || !ok {
		t.Errorf("as many as there may be: %d bytes, %t", len(b), ok)
	}
}

// P9.3

func TestFindWritten(t *testing.T) {
	exts := []api.Ext{{Kind: 7, Data: []byte("one")}, {Kind: 0}, {Kind: -1, Data: []byte("below")}, {Kind: 7, Data: []byte("two")}, {Kind: 65536, Data: []byte("past")}, {Kind: api.MinInt, Data: []byte("least")}, {Kind: api.MaxInt, Data: []byte("most")}}
	for _, has := range []bool{false, true} {
		h := api.Hello{HasExts: has, Exts: exts}
		for kind, want := range map[int]string{7: "one", 0: "", -1: "below", 65536: "past", api.MinInt: "least", api.MaxInt: "most"} {
			if got, ok := hello.Find(h, kind); string(got) != want || !ok {
				t.Errorf("kind %d: %q %t", kind, got, ok)
			}
		}
		for _, kind := range []int{6, 8, 1, -2, -7, 65535, 65543, 1<<32 + 7, api.MinInt + 1, api.MaxInt - 1} {
			if got, ok := hello.Find(h, kind); len(got) != 0 || ok {
				t.Errorf("kind %d: %q %t", kind, got, ok)
			}
		}
	}
	for _, h := range []api.Hello{{}, {HasExts: true}, {HasExts: true, Exts: []api.Ext{}}, parsed(t, sound().bare())} {
		if got, ok := hello.Find(h, 0); len(got) != 0 || ok {
			t.Errorf("of none: %q %t", got, ok)
		}
	}
}

// TestFindLast looks behind extensions that are no hello's, and at the last of many.
func TestFindLast(t *testing.T) {
	h := parsed(t, sound().bytes())
	finds(t, h)
	for n := range 300 {
		h.Exts = append(h.Exts, api.Ext{Kind: 1000 + n%250, Data: []byte{byte(n)}})
	}
	finds(t, h)
}

// P9.4

// TestParseMemory spoils what was handed in, and one of two answers.
func TestParseMemory(t *testing.T) {
	room := []byte(sound().bytes() + "spare room")
	b := room[:len(room)-10]
	one, _ := hello.Parse(b)
	two, _ := hello.Parse(b)
	spoilAll(two)
	if string(room) != sound().bytes()+"spare room" {
		t.Fatal("what was handed in is changed")
	}
	spoil(b)
	if want, _ := opinion(sound().bytes()); !same(one, want) {
		t.Errorf("an answer became %+v", one)
	}
}

// TestListsApart spoils each list of an answer: no other one changes.
func TestListsApart(t *testing.T) {
	want, _ := opinion(sound().bytes())
	for i := range 6 {
		h := parsed(t, sound().bytes())
		lists := []*[]byte{&h.Session, &h.Methods, &h.Exts[0].Data, &h.Exts[1].Data, &h.Exts[2].Data}
		if i == 5 {
			spoil(h.Ciphers)
			h.Ciphers = want.Ciphers
		} else {
			spoil(*lists[i])
			*lists[i] = []byte([]string{"abcde", "\x01\x00", "name", "", "\x02\x03\x04"}[i])
		}
		if !same(h, want) {
			t.Errorf("list %d: another one changed: %+v", i, h)
		}
	}
}

// roomy is b with spare room, which has an order.
func roomy(b []byte) []byte { return append(append([]byte{}, b...), "0123456789"...)[:len(b)] }

func TestPrintMemory(t *testing.T) {
	h := parsed(t, sound().bytes())
	h.Session, h.Methods, h.Ciphers = roomy(h.Session), roomy(h.Methods), append(h.Ciphers, 1, 2, 3)[:3]
	for i := range h.Exts {
		h.Exts[i].Data = roomy(h.Exts[i].Data)
	}
	one, _ := hello.Print(h)
	two, _ := hello.Print(h)
	spoil(two)
	for _, b := range [][]byte{h.Session, h.Methods, h.Exts[0].Data, h.Exts[1].Data, h.Exts[2].Data} {
		if got := string(b[len(b) : len(b)+10]); got != "0123456789" {
			t.Errorf("spare room became %q", got)
		}
	}
	prints(t, h, sound().bytes())
	spoilAll(h)
	if string(one) != sound().bytes() {
		t.Errorf("an answer became %.80x", one)
	}
}

func TestFindMemory(t *testing.T) {
	data := []byte("abcdefghij")
	h := api.Hello{HasExts: true, Exts: []api.Ext{{Kind: 7, Data: data[:3]}}}
	one, _ := hello.Find(h, 7)
	two, _ := hello.Find(h, 7)
	spoil(two)
	if string(data) != "abcdefghij" {
		t.Errorf("what was handed in became %q", data)
	}
	spoil(data)
	if string(one) != "abc" {
		t.Errorf("an answer became %q", one)
	}
}

// P9.5

// made is a hello, its parts of many lengths.
func made(source *rand.Rand) api.Hello {
	text := func(n int) []byte { return []byte(mixed(n)) }
	h := api.Hello{Version: 0x300 + source.Intn(256), Session: text(source.Intn(33)), Methods: append(text(source.Intn(255)), 0), HasExts: source.Intn(4) > 0}
	source.Read(h.Random[:])
	for range 1 + source.Intn(40) {
		h.Ciphers = append(h.Ciphers, source.Intn(1<<16))
	}
	if h.HasExts {
		for _, kind := range source.Perm(40)[:source.Intn(40)] {
			h.Exts = append(h.Exts, api.Ext{Kind: kind * 1677, Data: text(source.Intn(300))})
		}
	}
	return h
}

// TestPrintedAndParsed prints hellos, and parses what was printed.
func TestPrintedAndParsed(t *testing.T) {
	source := rand.New(rand.NewSource(9))
	for range 1000 {
		h := made(source)
		b, ok := hello.Print(h)
		if !ok {
			t.Fatalf("not printed: %+v", h)
		}
		if back := parsed(t, string(b)); !same(back, h) {
			t.Fatalf("%+v is parsed as %+v", h, back)
		}
		held(t, string(b))
	}
}

// TestLikely holds rows of likely bytes behind a hello's beginnings against the second opinion.
func TestLikely(t *testing.T) {
	source := rand.New(rand.NewSource(9))
	p := sound()
	for range 40000 {
		var b []byte
		for range source.Intn(24) {
			b = append(b, "\x00\x00\x00\x00\x01\x01\x02\x03\x04\x07"[source.Intn(10)])
		}
		begin := p.version + p.random
		held(t, begin+string(b))
		held(t, begin+"\x00\x00\x02\x00\x07\x01\x00"+string(b))
		held(t, begin+"\x00\x00\x02\x00\x07\x01\x00"+long(string(b)))
	}
}

// TestTurned turns a byte of a hello, at each place, into each other.
func TestTurned(t *testing.T) {
	p := sound()
	p.random = strings.Repeat("\x07", 32)
	for i := range p.bytes() {
		b := []byte(p.bytes())
		for c := range 256 {
			b[i] = byte(c)
			held(t, string(b))
		}
	}
}

func FuzzHellos(f *testing.F) {
	p := sound()
	f.Add([]byte(p.bytes()))
	f.Add([]byte(p.bare()))
	p.exts = long(ext(7, "") + ext(7, ""))
	f.Add([]byte(p.bytes()))
	p.methods = short("\x01")
	f.Add([]byte(p.bytes()))
	p.session = short(mixed(33))
	f.Add([]byte(p.bytes()))
	p.version = "\x02\x00"
	f.Add([]byte(p.bytes()))
	f.Fuzz(func(t *testing.T, b []byte) { held(t, string(b)) })
}
