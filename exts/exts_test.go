package exts_test

import (
	"math/rand"
	"slices"
	"strings"
	"testing"

	"hagioscope/api"
	"hagioscope/exts"
	"hagioscope/hello"
)

// num is a number of two bytes.
func num(n int) string { return string([]byte{byte(n >> 8), byte(n)}) }

// short is a vector of one, long a vector of two.
func short(x string) string { return string([]byte{byte(len(x))}) + x }
func long(x string) string  { return num(len(x)) + x }

// typed is a name with its type.
func typed(kind byte, s string) string { return string([]byte{kind}) + long(s) }

// inside is what stands in d, a vector of that size; or false, if it is none, or something is behind it.
func inside(d string, size int) (string, bool) {
	if len(d) < size {
		return "", false
	}
	n := 0
	for i := range size {
		n = n*256 + int(d[i])
	}
	return d[size:], n == len(d)-size
}

// nameOpinion is a second opinion on names, which counts places.
func nameOpinion(d string) (string, api.Errno) {
	x, ok := inside(d, 2)
	if !ok || x == "" {
		return "", api.ErrForm
	}
	var hosts []string
	for at := 0; at < len(x); {
		if at+3 > len(x) {
			return "", api.ErrForm
		}
		end := at + 3 + int(x[at+1])*256 + int(x[at+2])
		if end > len(x) {
			return "", api.ErrForm
		}
		if x[at] == 0 {
			hosts = append(hosts, x[at+3:end])
		}
		at = end
	}
	if len(hosts) > 1 {
		return "", api.ErrTwice
	}
	if len(hosts) < 1 {
		return "", api.ErrNone
	}
	if !sound(hosts[0]) {
		return "", api.ErrName
	}
	return hosts[0], api.OK
}

// sound says whether s may be told as a name.
func sound(s string) bool {
	odd := strings.IndexFunc(s, func(r rune) bool { return r < '!' || r > '~' })
	return 1 <= len(s) && len(s) <= 255 && odd < 0
}

// protocolsOpinion is a second opinion on protocols.
func protocolsOpinion(d string) ([]string, api.Errno) {
	x, ok := inside(d, 2)
	var l []string
	for ok && x != "" {
		n := int(x[0])
		if n == 0 || n >= len(x) {
			return nil, api.ErrForm
		}
		l = append(l, x[1:1+n])
		x = x[1+n:]
	}
	if len(l) == 0 {
		return nil, api.ErrForm
	}
	return l, api.OK
}

// versionsOpinion is a second opinion on versions.
func versionsOpinion(d string) ([]int, api.Errno) {
	x, ok := inside(d, 1)
	if !ok || x == "" || len(x)%2 == 1 {
		return nil, api.ErrForm
	}
	var l []int
	for i := 0; i < len(x); i += 2 {
		l = append(l, int(x[i])*256+int(x[i+1]))
	}
	return l, api.OK
}

// mixed is n bytes without an order, the same ones in each run.
func mixed(n int) string {
	out := make([]byte, n)
	rand.New(rand.NewSource(10)).Read(out)
	return string(out)
}

// roomy is s with spare room, in which an order is.
func roomy(s string) []byte { return append([]byte(s), "0123456789"...)[:len(s)] }

// spoil writes other values over l and its spare room.
func spoil[T byte | int](l []T) {
	l = l[:cap(l)]
	for i := range l {
		l[i] = ^l[i]
	}
}

// held holds all that is told of the data d against the second opinions; d must stay as it is.
func held(t *testing.T, d string) {
	t.Helper()
	b := roomy(d)
	name, e := exts.Name(b)
	if want, fault := nameOpinion(d); name != want || e != fault {
		t.Fatalf("name of %.80x: %q, error %d, not %q, %d", d, name, e, want, fault)
	}
	l, e := exts.Protocols(b)
	if want, fault := protocolsOpinion(d); !slices.Equal(l, want) || e != fault {
		t.Fatalf("protocols of %.80x: %.80q, error %d, not %.80q, %d", d, l, e, want, fault)
	}
	v, e := exts.Versions(b)
	if want, fault := versionsOpinion(d); !slices.Equal(v, want) || e != fault {
		t.Fatalf("versions of %.80x: %d, error %d, not %d, %d", d, v, e, want, fault)
	}
	if got := string(b[:len(b)+10]); got != d+"0123456789" {
		t.Fatalf("%.80x became %.80x", d, got)
	}
}

// names asks for the name of d.
func names(t *testing.T, d, want string, fault api.Errno) {
	t.Helper()
	held(t, d)
	if got, e := exts.Name([]byte(d)); got != want || e != fault {
		t.Errorf("%.80q: %.80q, error %d, not %.80q, %d", d, got, e, want, fault)
	}
}

// lists asks for the protocols of d.
func lists(t *testing.T, d string, want ...string) {
	t.Helper()
	held(t, d)
	fault := api.OK
	if len(want) == 0 {
		fault = api.ErrForm
	}
	if got, e := exts.Protocols([]byte(d)); !slices.Equal(got, want) || e != fault {
		t.Errorf("%.80q: %.80q, error %d, not %.80q, %d", d, got, e, want, fault)
	}
}

// counts asks for the versions of d.
func counts(t *testing.T, d string, want ...int) {
	t.Helper()
	held(t, d)
	fault := api.OK
	if len(want) == 0 {
		fault = api.ErrForm
	}
	if got, e := exts.Versions([]byte(d)); !slices.Equal(got, want) || e != fault {
		t.Errorf("%.80x: %d, error %d, not %d, %d", d, got, e, want, fault)
	}
}

// P10.1

func TestNamesRead(t *testing.T) {
	names(t, "\x00\x04\x00\x00\x01a", "a", api.OK)
	names(t, "\x00\x0e\x00\x00\x0bwww.example", "www.example", api.OK)
	names(t, "\x00\x08\x01\x00\x01b\x00\x00\x01a", "a", api.OK)
	names(t, "\x00\x08\x00\x00\x01a\x01\x00\x01b", "a", api.OK)
	names(t, "\x00\x0b\x07\x00\x00\x00\x00\x02[]\x07\x00\x00", "[]", api.OK)
}

func TestNameForms(t *testing.T) {
	for _, d := range []string{
		"", "\x00", "\x01", "\x00\x00", "\x00\x00\x00", "\x00\x01\x00", "\x00\x02\x00\x00", "\x00\x03\x00\x00\x01", "\x00\x03\x00\x00\x01a",
		"\x00\x05\x00\x00\x01a", "\x00\x05\x00\x00\x02a", "\x00\x05\x00\x00\x01a\x00", "\x00\x06\x00\x00\x01a\x00\x00", "\x01\x04\x00\x00\x01a", "\x04\x00\x00\x01a",
		long(typed(0, "a")) + "\x00", long(typed(0, "a")) + "a", long(typed(0, "a")) + typed(1, "b"), long(typed(0, "a")) + long(typed(1, "b")),
		long("") + long(typed(0, "a")), long(long("a")), long("a"), "a",
	} {
		names(t, d, "", api.ErrForm)
	}
}

// TestNameCut cuts data short, puts bytes behind it, and lets it tell other numbers of bytes.
func TestNameCut(t *testing.T) {
	x := typed(3, "xyz") + typed(0, "a.example") + typed(4, "")
	names(t, long(x), "a.example", api.OK)
	for i := range long(x) {
		names(t, long(x)[:i], "", api.ErrForm)
		names(t, long(x)+long(x)[:i+1], "", api.ErrForm)
	}
	for n := range 1 << 16 {
		if n != len(x) {
			names(t, num(n)+x, "", api.ErrForm)
		}
		if n > 0 {
			names(t, long(typed(3, "xyz")+"\x00"+num(n)), "", api.ErrForm)
		}
	}
	names(t, long(x[:6]), "", api.ErrNone)
	names(t, long(x[:18]), "a.example", api.OK)
	for _, i := range []int{1, 2, 3, 4, 5, 7, 8, 9, 10, 17, 19, 20} {
		names(t, long(x[:i]), "", api.ErrForm)
	}
}

// TestNameTypes has names of each type, alone and beside others: those of other types may be whatever they are, and be many.
func TestNameTypes(t *testing.T) {
	for kind := range 256 {
		other := typed(byte(kind), "b")
		if kind == 0 {
			names(t, long(other), "b", api.OK)
			names(t, long(other+other), "", api.ErrTwice)
			continue
		}
		names(t, long(other), "", api.ErrNone)
		names(t, long(other+other), "", api.ErrNone)
		names(t, long(other+typed(0, "a")+other), "a", api.OK)
	}
	for _, s := range []string{"", " ", "\x00", "\x00\x00\x01a", mixed(256), mixed(60000)} {
		names(t, long(typed(1, s)), "", api.ErrNone)
		names(t, long(typed(255, s)+typed(0, "a")+typed(1, s[:len(s)/20])), "a", api.OK)
	}
	many := strings.Repeat(typed(9, ""), 65535/3-2)
	names(t, long(many), "", api.ErrNone)
	names(t, long(many+typed(0, "abc")), "abc", api.OK)
	names(t, long(typed(0, "abc")+many), "abc", api.OK)
	names(t, long(many+typed(0, "")+typed(0, "")), "", api.ErrTwice)
}

// TestNameTwice has two names of the type 0, whatever they are and wherever they stand.
func TestNameTwice(t *testing.T) {
	for _, s := range []string{"a", "b", "", " ", mixed(300)} {
		for _, between := range []string{"", typed(1, "c"), typed(2, "") + typed(3, "d")} {
			names(t, long(typed(0, "a")+between+typed(0, s)), "", api.ErrTwice)
			names(t, long(typed(0, s)+between+typed(0, "a")+between), "", api.ErrTwice)
			names(t, long(between+typed(0, s)+typed(0, s)+between+typed(0, s)), "", api.ErrTwice)
		}
	}
}

// putsName asks whether s is put, and read as it was; or neither.
func putsName(t *testing.T, s string, is bool) {
	t.Helper()
	b, ok := exts.PutName(s)
	want := ""
	if is {
		want = long(typed(0, s))
		names(t, want, s, api.OK)
	} else if len(s) <= 65532 {
		names(t, long(typed(0, s)), "", api.ErrName)
	}
	if string(b) != want || ok != is {
		t.Errorf("%.80q: %.80x, %t", s, b, ok)
	}
}

func TestNameBytes(t *testing.T) {
	for c := range 256 {
		s, is := string([]byte{byte(c)}), 0x21 <= c && c <= 0x7e
		putsName(t, s, is)
		putsName(t, s+"ab", is)
		putsName(t, "a"+s+"b", is)
		putsName(t, "ab"+s, is)
		putsName(t, strings.Repeat("a", 254)+s, is)
	}
	for _, s := range []string{"é", "日本", "a\u0301", "\u2028", "\ufffd", "a\ufeff"} {
		putsName(t, s, false)
	}
}

func TestNameLengths(t *testing.T) {
	for n := range 600 {
		putsName(t, strings.Repeat("a", n), 1 <= n && n <= 255)
	}
	for _, n := range []int{4096, 65279, 65280, 65281, 65531, 65532, 65533, 65534, 65535, 65536, 65537, 65792, 1 << 20} {
		putsName(t, strings.Repeat("a", n), false)
	}
}

// TestNameFirst has several errors at once: the first one of the promise is told.
func TestNameFirst(t *testing.T) {
	for _, bad := range []string{"", " ", mixed(256)} {
		names(t, long(typed(0, bad)), "", api.ErrName)
		names(t, long(typed(0, bad)+typed(0, bad)), "", api.ErrTwice)
		names(t, long(typed(1, bad)), "", api.ErrNone)
		names(t, long(typed(0, bad))+"\x00", "", api.ErrForm)
		names(t, long(typed(0, bad)+typed(0, bad)+"\x00"), "", api.ErrForm)
		names(t, long(typed(1, bad)+"\x01\x00"), "", api.ErrForm)
		names(t, long(typed(1, bad)+"\x00\x00\x01"), "", api.ErrForm)
	}
}

// P10.2

func TestProtocolsRead(t *testing.T) {
	lists(t, "\x00\x02\x01x", "x")
	lists(t, "\x00\x03\x02h2", "h2")
	lists(t, "\x00\x0c\x02h2\x08http/1.1", "h2", "http/1.1")
	lists(t, "\x00\x06\x01x\x01x\x01y", "x", "x", "y")
	lists(t, "\x00\x08\x01\x00\x02\xff \x02\x01\x01", "\x00", "\xff ", "\x01\x01")
}

func TestProtocolForms(t *testing.T) {
	for _, d := range []string{
		"", "\x00", "\x01", "\x00\x00", "\x00\x00\x00", "\x00\x01", "\x00\x01\x00", "\x00\x01\x01", "\x00\x02\x00\x00", "\x00\x02\x02x", "\x00\x02\x01", "\x00\x01\x01x",
		"\x00\x03\x01x", "\x00\x03\x01x\x00", "\x00\x03\x00\x01x", "\x00\x03\x01x\x01", "\x00\x05\x01x\x00\x01y", "\x00\x02\x01x\x00", "\x00\x02\x01x\x01y", "\x00\x02\x01x\x00\x02\x01x",
		"\x02\x01x", "\x01\x02\x01x", "\x02h2", "h2", long("h2"), long(long("h2")), long("") + long(short("h2")),
	} {
		lists(t, d)
	}
}

// TestProtocolsCut cuts data short, puts bytes behind it, and lets it tell other numbers of bytes.
func TestProtocolsCut(t *testing.T) {
	x := short("h2") + short("http/1.1") + short("z")
	lists(t, long(x), "h2", "http/1.1", "z")
	for i := range long(x) {
		lists(t, long(x)[:i])
		lists(t, long(x)+long(x)[:i+1])
	}
	for n := range 1 << 16 {
		if n != len(x) {
			lists(t, num(n)+x)
		}
	}
	lists(t, long(x[:3]), "h2")
	lists(t, long(x[:12]), "h2", "http/1.1")
	for _, i := range []int{1, 2, 4, 5, 11, 13} {
		lists(t, long(x[:i]))
	}
	for n := 1; n < 256; n++ {
		lists(t, long(x+string([]byte{byte(n)})+strings.Repeat("a", n-1)))
		lists(t, long(x+short(strings.Repeat("a", n))), "h2", "http/1.1", "z", strings.Repeat("a", n))
	}
}

// putsProtocols asks whether l is put as want, and read as it was; or not put, if that is empty.
func putsProtocols(t *testing.T, what string, l []string, want string) {
	t.Helper()
	was := slices.Clone(l)
	b, ok := exts.PutProtocols(l)
	if string(b) != want || ok != (want != "") {
		t.Errorf("%s: %.80x (%d bytes), %t", what, b, len(b), ok)
	}
	if !slices.Equal(l, was) {
		t.Errorf("%s: what was handed in became %.80q", what, l)
	}
	if ok {
		lists(t, string(b), l...)
	}
}

func TestProtocolsPut(t *testing.T) {
	most := strings.Repeat("a", 255)
	putsProtocols(t, "one", []string{"h2"}, "\x00\x03\x02h2")
	putsProtocols(t, "two", []string{"h2", "http/1.1"}, "\x00\x0c\x02h2\x08http/1.1")
	putsProtocols(t, "one thrice", []string{"x", "x", "x"}, "\x00\x06\x01x\x01x\x01x")
	putsProtocols(t, "odd bytes", []string{"\x00", " \xff"}, "\x00\x05\x01\x00\x02 \xff")
	putsProtocols(t, "a long one", []string{most}, "\x01\x00\xff"+most)
	putsProtocols(t, "a long one between", []string{"x", most, "y"}, "\x01\x04\x01x\xff"+most+"\x01y")
	putsProtocols(t, "nil", nil, "")
	putsProtocols(t, "none", []string{}, "")
	putsProtocols(t, "an empty one", []string{""}, "")
	putsProtocols(t, "an empty one first", []string{"", "x"}, "")
	putsProtocols(t, "an empty one between", []string{"x", "", "y"}, "")
	putsProtocols(t, "an empty one last", []string{"x", ""}, "")
	for _, n := range []int{256, 257, 511, 512, 1000, 65535, 65536, 65537, 1 << 20} {
		s := strings.Repeat("a", n)
		putsProtocols(t, "a longer one", []string{s}, "")
		putsProtocols(t, "a longer one first", []string{s, "x"}, "")
		putsProtocols(t, "a longer one last", []string{"x", s}, "")
	}
}

// TestProtocolsFull has as many bytes as a vector can tell, and more.
func TestProtocolsFull(t *testing.T) {
	most := strings.Repeat("b", 255)
	full := slices.Repeat([]string{most}, 255)
	x := strings.Repeat(short(most), 255)
	putsProtocols(t, "255 times 256 bytes", full, long(x))
	last := strings.Repeat("c", 254)
	putsProtocols(t, "65535 bytes", append(slices.Clone(full), last), long(x+short(last)))
	putsProtocols(t, "65536 bytes", append(slices.Clone(full), most), "")
	putsProtocols(t, "65536 bytes, and an empty one", append(slices.Clone(full), most, ""), "")
	putsProtocols(t, "65535 bytes, and one more", append(slices.Clone(full), last, "x"), "")
	small := slices.Repeat([]string{"x"}, 32767)
	putsProtocols(t, "65534 bytes", small, long(strings.Repeat("\x01x", 32767)))
	putsProtocols(t, "65535 small bytes", append(small[:32766:32766], "xy"), long(strings.Repeat("\x01x", 32766)+"\x02xy"))
	putsProtocols(t, "65536 small bytes", append(slices.Clone(small), "x"), "")
	putsProtocols(t, "far more", slices.Repeat([]string{most}, 1<<20), "")
	putsProtocols(t, "65536 times 256 bytes, and 4", append(slices.Repeat([]string{most}, 65536), "abc"), "")
}

// P10.3

func TestVersionsRead(t *testing.T) {
	counts(t, "\x02\x03\x04", 0x304)
	counts(t, "\x04\x03\x04\x03\x03", 0x304, 0x303)
	counts(t, "\x06\x00\x00\xff\xff\x00\x00", 0, 65535, 0)
	counts(t, "\x04\x00\xff\xff\x00", 255, 65280)
}

func TestVersionForms(t *testing.T) {
	for _, d := range []string{
		"", "\x00", "\x00\x00", "\x01", "\x01\x03", "\x01\x03\x04", "\x02", "\x02\x03", "\x02\x03\x04\x03", "\x02\x03\x04\x03\x04", "\x02\x03\x04\x02\x03\x04",
		"\x03\x03\x04", "\x03\x03\x04\x03", "\x03\x03\x04\x03\x04", "\x04\x03\x04\x03", "\x00\x02\x03\x04", "\x00\x02", "\x03\x04",
	} {
		counts(t, d)
	}
}

// TestVersionsCut cuts data short, puts bytes behind it, and lets it tell other numbers of bytes.
func TestVersionsCut(t *testing.T) {
	x := "\x03\x04\x03\x03\x01\x02"
	for i := range short(x) {
		counts(t, short(x)[:i])
		counts(t, short(x)+short(x)[:i+1])
	}
	for n := range 256 {
		if n != len(x) {
			counts(t, string([]byte{byte(n)})+x)
		}
		_, e := exts.Versions([]byte(short(mixed(n))))
		if want := n == 0 || n%2 == 1; want != (e == api.ErrForm) {
			t.Errorf("%d bytes: error %d", n, e)
		}
		held(t, short(mixed(n)))
	}
}

// putsVersions asks whether l is put as want, and read as it was; or not put, if that is empty.
func putsVersions(t *testing.T, what string, l []int, want string) {
	t.Helper()
	was := slices.Clone(l)
	b, ok := exts.PutVersions(l)
	if string(b) != want || ok != (want != "") {
		t.Errorf("%s: %.80x (%d bytes), %t", what, b, len(b), ok)
	}
	if !slices.Equal(l, was) {
		t.Errorf("%s: what was handed in became %d", what, l)
	}
	if ok {
		counts(t, string(b), l...)
	}
}

func TestVersionsPut(t *testing.T) {
	putsVersions(t, "one", []int{0x304}, "\x02\x03\x04")
	putsVersions(t, "two", []int{0x304, 0x303}, "\x04\x03\x04\x03\x03")
	putsVersions(t, "the ends, one of them twice", []int{0, 65535, 0}, "\x06\x00\x00\xff\xff\x00\x00")
	putsVersions(t, "nil", nil, "")
	putsVersions(t, "none", []int{}, "")
	for n := 1; n <= 600; n++ {
		want := ""
		if n <= 127 {
			want = string([]byte{byte(2 * n)}) + strings.Repeat("\x03\x04", n)
		}
		putsVersions(t, "many", slices.Repeat([]int{0x304}, n), want)
	}
	for _, n := range []int{32767, 32768, 32768 + 1, 65535, 65536, 1 << 20} {
		putsVersions(t, "far more", slices.Repeat([]int{0x304}, n), "")
	}
	for _, n := range []int{api.MinInt, api.MinInt + 0x304, -1 << 32, -65536, -65532, -1, 65536, 65536 + 0x304, 1 << 24, 1 << 32, 1<<32 + 0x304, api.MaxInt} {
		putsVersions(t, "past two bytes", []int{n}, "")
		putsVersions(t, "past two bytes, first", []int{n, 0x304}, "")
		putsVersions(t, "past two bytes, between", []int{0x304, n, 0x303}, "")
		putsVersions(t, "past two bytes, last", []int{0x304, n}, "")
	}
}

// P10.4

// seen holds what See tells of h against want: lists without anything in them are the same.
func seen(t *testing.T, what string, h api.Hello, want api.Seen, fault api.Errno) {
	t.Helper()
	x, e := exts.See(h)
	same := x.HasName == want.HasName && x.Name == want.Name && slices.Equal(x.Alpn, want.Alpn) && slices.Equal(x.Versions, want.Versions) && x.Ech == want.Ech
	if !same || e != fault {
		t.Errorf("%s: %+v, error %d, not %+v, %d", what, x, e, want, fault)
	}
}

// looked are sound extensions of the kinds that are looked at.
func looked() []api.Ext {
	return []api.Ext{
		{Kind: 0, Data: []byte("\x00\x0c\x00\x00\x09a.example")},
		{Kind: 16, Data: []byte("\x00\x05\x02h2\x01x")},
		{Kind: 43, Data: []byte("\x04\x03\x04\x03\x03")},
		{Kind: 0xfe0d, Data: []byte("whatever")},
	}
}

// TestSeenSets has each set of the extensions that are looked at, in both orders, among others and alone.
func TestSeenSets(t *testing.T) {
	for set := range 1 << 4 {
		var h api.Hello
		var want api.Seen
		for i, x := range looked() {
			if set>>i&1 == 0 {
				continue
			}
			h.Exts = append(h.Exts, x)
			switch i {
			case 0:
				want.HasName, want.Name = true, "a.example"
			case 1:
				want.Alpn = []string{"h2", "x"}
			case 2:
				want.Versions = []int{0x304, 0x303}
			case 3:
				want.Ech = true
			}
		}
		seen(t, "alone", h, want, api.OK)
		h.HasExts = true
		seen(t, "with HasExts", h, want, api.OK)
		slices.Reverse(h.Exts)
		seen(t, "turned round", h, want, api.OK)
		for _, kind := range []int{1, -1, 15, 17, 42, 44, 0xfe0c, 0xfe0e, 0x1000, 65536, 65536 + 16, 65536 + 43, 65536 + 0xfe0d, -65536, -16, -43, 0xfe0d - 65536, 1 << 32, 1<<32 + 16, api.MinInt, api.MaxInt} {
			other := api.Ext{Kind: kind, Data: []byte(mixed(9))}
			h.Exts = append(append([]api.Ext{other}, h.Exts...), other)
		}
		seen(t, "among others", h, want, api.OK)
	}
}

// TestSeenNothing has no extensions, in each way; the rest of a hello tells nothing.
func TestSeenNothing(t *testing.T) {
	seen(t, "a zero hello", api.Hello{}, api.Seen{}, api.OK)
	seen(t, "a row of none", api.Hello{HasExts: true, Exts: []api.Ext{}}, api.Seen{}, api.OK)
	seen(t, "other parts", api.Hello{Version: 0x303, Session: []byte("\x00\x04\x00\x00\x01a"), Ciphers: []int{0, 16, 43, 0xfe0d}, Methods: []byte{0, 16, 43}}, api.Seen{}, api.OK)
}

// TestSeenFirst has two extensions of a kind: the first one counts, be it wrong or not.
func TestSeenFirst(t *testing.T) {
	all := api.Seen{HasName: true, Name: "a.example", Alpn: []string{"h2", "x"}, Versions: []int{0x304, 0x303}, Ech: true}
	other := api.Seen{HasName: true, Name: "b", Alpn: []string{"y"}, Versions: []int{7}, Ech: true}
	others := []api.Ext{{Kind: 0, Data: []byte("\x00\x04\x00\x00\x01b")}, {Kind: 16, Data: []byte("\x00\x02\x01y")}, {Kind: 43, Data: []byte("\x02\x00\x07")}, {Kind: 0xfe0d}}
	seen(t, "sound ones", api.Hello{Exts: append(looked(), others...)}, all, api.OK)
	seen(t, "sound ones, turned round", api.Hello{Exts: append(others, looked()...)}, other, api.OK)
	for i, x := range looked()[:3] {
		wrong := api.Ext{Kind: x.Kind, Data: []byte("\x00")}
		seen(t, "a wrong one behind", api.Hello{Exts: append(looked(), wrong)}, all, api.OK)
		seen(t, "a wrong one ahead", api.Hello{Exts: append([]api.Ext{wrong}, looked()...)}, api.Seen{}, api.ErrForm)
		h := api.Hello{Exts: looked()}
		h.Exts[i] = wrong
		seen(t, "a wrong one between", h, api.Seen{}, api.ErrForm)
	}
}

// TestSeenErrors has each error of the names, with each of the other extensions, wrong ones and sound ones: the names' is told first.
func TestSeenErrors(t *testing.T) {
	bad := map[string]api.Errno{"": api.ErrForm, "\x00\x00": api.ErrForm, "\x00\x04\x00\x00\x01ab": api.ErrForm, "\x00\x08\x00\x00\x01a\x00\x00\x01a": api.ErrTwice, "\x00\x03\x01\x00\x00": api.ErrNone, "\x00\x04\x00\x00\x01\x20": api.ErrName, "\x00\x03\x00\x00\x00": api.ErrName, long(typed(0, strings.Repeat("a", 256))): api.ErrName}
	for d, fault := range bad {
		for set := range 1 << 2 {
			h := api.Hello{Exts: looked()}
			h.Exts[0].Data = []byte(d)
			if set&1 == 1 {
				h.Exts[1].Data = nil
			}
			if set&2 == 2 {
				h.Exts[2].Data = []byte{}
			}
			seen(t, "a wrong name", h, api.Seen{}, fault)
			slices.Reverse(h.Exts)
			seen(t, "a wrong name, turned round", h, api.Seen{}, fault)
			seen(t, "without the name", api.Hello{Exts: h.Exts[:3]}, without(h.Exts[:3]), map[bool]api.Errno{false: api.OK, true: api.ErrForm}[set != 0])
		}
	}
	for _, d := range []string{"", "\x00\x00", "\x00\x01\x00", "\x00\x03\x02h2x"} {
		seen(t, "wrong protocols", api.Hello{Exts: []api.Ext{{Kind: 16, Data: []byte(d)}, {Kind: 0xfe0d}}}, api.Seen{}, api.ErrForm)
	}
	for _, d := range []string{"", "\x00", "\x01\x03", "\x02\x03\x04\x05"} {
		seen(t, "wrong versions", api.Hello{Exts: []api.Ext{{Kind: 43, Data: []byte(d)}, {Kind: 0xfe0d}}}, api.Seen{}, api.ErrForm)
	}
}

// without is what l tells: all but a name, if the others are sound; else nothing.
func without(l []api.Ext) api.Seen {
	if len(l[1].Data) == 0 || len(l[2].Data) == 0 {
		return api.Seen{}
	}
	return api.Seen{Alpn: []string{"h2", "x"}, Versions: []int{0x304, 0x303}, Ech: true}
}

// TestSeenEch has whatever data in the extension that hides a hello, none among them.
func TestSeenEch(t *testing.T) {
	for _, d := range []string{"", "\x00", mixed(300)} {
		seen(t, "hidden", api.Hello{Exts: []api.Ext{{Kind: 0xfe0d, Data: []byte(d)}}}, api.Seen{Ech: true}, api.OK)
	}
}

// TestSeenParsed sees what hellos tell that were printed and parsed.
func TestSeenParsed(t *testing.T) {
	h := api.Hello{Version: 0x303, Ciphers: []int{1}, Methods: []byte{0}, HasExts: true, Exts: looked()}
	b, ok := hello.Print(h)
	back, e := hello.Parse(b)
	if !ok || e != api.OK {
		t.Fatal("not parsed")
	}
	seen(t, "parsed", back, api.Seen{HasName: true, Name: "a.example", Alpn: []string{"h2", "x"}, Versions: []int{0x304, 0x303}, Ech: true}, api.OK)
}

// P10.5

// TestReadMemory spoils what was handed in, and one of two answers.
func TestReadMemory(t *testing.T) {
	d := roomy("\x00\x04\x00\x00\x01a")
	name, _ := exts.Name(d)
	spoil(d)
	d = roomy("\x00\x05\x02h2\x01x")
	l, _ := exts.Protocols(d)
	other, _ := exts.Protocols(d)
	other[0], other[1] = "other", "other"
	for i := range other[:cap(other)] {
		other[:cap(other)][i] = "other"
	}
	spoil(d)
	d = roomy("\x04\x03\x04\x03\x03")
	v, _ := exts.Versions(d)
	again, _ := exts.Versions(d)
	spoil(again)
	spoil(d)
	if name != "a" || !slices.Equal(l, []string{"h2", "x"}) || !slices.Equal(v, []int{0x304, 0x303}) {
		t.Errorf("answers became %q, %q, %d", name, l, v)
	}
}

func TestPutMemory(t *testing.T) {
	name, _ := exts.PutName("a")
	again, _ := exts.PutName("a")
	spoil(again)
	l := []string{"h2", "x", "spare", "room"}
	list, _ := exts.PutProtocols(l[:2])
	again, _ = exts.PutProtocols(l[:2])
	spoil(again)
	v := []int{0x304, 0x303, 7, 8}
	versions, _ := exts.PutVersions(v[:2])
	again, _ = exts.PutVersions(v[:2])
	spoil(again)
	if !slices.Equal(l, []string{"h2", "x", "spare", "room"}) || !slices.Equal(v, []int{0x304, 0x303, 7, 8}) {
		t.Errorf("what was handed in became %q, %d", l, v)
	}
	l[0], v[0] = "other", 9
	if string(name) != "\x00\x04\x00\x00\x01a" || string(list) != "\x00\x05\x02h2\x01x" || string(versions) != "\x04\x03\x04\x03\x03" {
		t.Errorf("answers became %x, %x, %x", name, list, versions)
	}
}

func TestSeenMemory(t *testing.T) {
	h := api.Hello{Exts: looked()}
	for i, x := range h.Exts {
		h.Exts[i].Data = roomy(string(x.Data))
	}
	one, _ := exts.See(h)
	two, _ := exts.See(h)
	two.Alpn[0], two.Alpn[1] = "other", "other"
	spoil(two.Versions)
	for i, x := range looked() {
		if got := string(h.Exts[i].Data[:len(x.Data)+10]); h.Exts[i].Kind != x.Kind || got != string(x.Data)+"0123456789" {
			t.Errorf("what was handed in became %+v", h.Exts[i])
		}
		spoil(h.Exts[i].Data)
		h.Exts[i].Kind = -1
	}
	if one.Name != "a.example" || !slices.Equal(one.Alpn, []string{"h2", "x"}) || !slices.Equal(one.Versions, []int{0x304, 0x303}) {
		t.Errorf("an answer became %+v", one)
	}
}

// P10.6

// TestPutAndRead puts names, protocols and versions of many lengths, and reads them again, alone and out of a hello.
func TestPutAndRead(t *testing.T) {
	source := rand.New(rand.NewSource(10))
	for range 2000 {
		var l []string
		var v []int
		for range 1 + source.Intn(20) {
			l = append(l, mixed(300)[:1+source.Intn(255)])
			v = append(v, source.Intn(1<<16))
		}
		name := make([]byte, 1+source.Intn(255))
		for i := range name {
			name[i] = byte('!' + source.Intn('~'-'!'+1))
		}
		b1, ok1 := exts.PutName(string(name))
		b2, ok2 := exts.PutProtocols(l)
		b3, ok3 := exts.PutVersions(v)
		if !ok1 || !ok2 || !ok3 {
			t.Fatalf("not put: %q, %q, %d", name, l, v)
		}
		names(t, string(b1), string(name), api.OK)
		lists(t, string(b2), l...)
		counts(t, string(b3), v...)
		h := api.Hello{Exts: []api.Ext{{Kind: 43, Data: b3}, {Kind: 16, Data: b2}, {Kind: 0, Data: b1}}}
		seen(t, "put", h, api.Seen{HasName: true, Name: string(name), Alpn: l, Versions: v}, api.OK)
	}
}

// again puts what was read of d, and reads that.
func again(t *testing.T, d string) {
	t.Helper()
	held(t, d)
	if name, e := exts.Name([]byte(d)); e == api.OK {
		putsName(t, name, true)
	}
	if l, e := exts.Protocols([]byte(d)); e == api.OK {
		putsProtocols(t, "read", l, d)
	}
	if v, e := exts.Versions([]byte(d)); e == api.OK {
		putsVersions(t, "read", v, d)
	}
}

// TestLikely holds rows of likely bytes, in vectors and alone, against the second opinions.
func TestLikely(t *testing.T) {
	source := rand.New(rand.NewSource(10))
	for range 60000 {
		var b []byte
		for range source.Intn(16) {
			b = append(b, "\x00\x00\x00\x01\x01\x02\x03\x04ab "[source.Intn(11)])
		}
		again(t, string(b))
		again(t, long(string(b)))
		again(t, short(string(b)))
	}
}

// TestTurned turns a byte of sound data, at each place, into each other.
func TestTurned(t *testing.T) {
	for _, d := range []string{long(typed(1, "b") + typed(0, "a.b") + typed(0, "c")), long(typed(0, "a.b") + typed(2, "c")), "\x00\x08\x02h2\x01x\x02yz", "\x06\x03\x04\x03\x03\x03\x02"} {
		for i := range d {
			b := []byte(d)
			for c := range 256 {
				b[i] = byte(c)
				again(t, string(b))
			}
		}
	}
}

func FuzzData(f *testing.F) {
	f.Add([]byte(long(typed(1, "b") + typed(0, "a.b"))))
	f.Add([]byte(long(typed(0, "a") + typed(0, "b"))))
	f.Add([]byte(long(typed(0, " "))))
	f.Add([]byte(long(short("h2") + short("http/1.1"))))
	f.Add([]byte(short("\x03\x04\x03\x03")))
	f.Fuzz(func(t *testing.T, b []byte) { again(t, string(b)) })
}
