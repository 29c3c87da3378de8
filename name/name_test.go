package name_test

import (
	"math/rand"
	"net/netip"
	"regexp"
	"slices"
	"strings"
	"testing"
	"unsafe"

	"hagioscope/addr"
	"hagioscope/api"
	"hagioscope/name"
)

var (
	nameForm  = regexp.MustCompile(`^(?:[a-z0-9_](?:[a-z0-9_-]{0,61}[a-z0-9_])?\.)*[a-z0-9_](?:[a-z0-9_-]{0,61}[a-z0-9_])?$`)
	digitForm = regexp.MustCompile(`(?:^|\.)[0-9]+$`)
	greatForm = regexp.MustCompile(`[A-Z]`)
)

// address is a second opinion on texts of addresses.
func address(s string) (string, bool) {
	a, err := netip.ParseAddr(s)
	if err != nil || a.Zone() != "" {
		return "", false
	}
	return a.Unmap().String(), true
}

// opinion is a second opinion on what is normal.
func opinion(s string) (string, api.Errno) {
	if text, ok := address(s); ok {
		return text, api.OK
	}
	host := greatForm.ReplaceAllStringFunc(s, strings.ToLower)
	if n := len(host); n > 0 && host[n-1] == '.' {
		host = host[:n-1]
	}
	switch {
	case len(host) == 0:
		return "", api.ErrNone
	case len(host) >= 254:
		return "", api.ErrLength
	case !nameForm.MatchString(host) || digitForm.MatchString(host):
		return "", api.ErrName
	}
	return host, api.OK
}

// labelOpinion is a second opinion on labels, which goes from behind.
func labelOpinion(s string) []string {
	var out []string
	for _, is := address(s); !is; {
		at := strings.LastIndexByte(s, '.')
		if at < 0 {
			break
		}
		out, s = append(out, s[at+1:]), s[:at]
	}
	return append(out, s)
}

// normal fails if s isn't told as it should be; or, if it has a normal form, that isn't told as itself.
func normal(t *testing.T, s, want string, fault api.Errno) {
	t.Helper()
	if n, e := name.Normal(s); n != want || e != fault {
		t.Errorf("Normal(%.300q): %.300q, %d, not %.300q, %d", s, n, e, want, fault)
	}
	if fault != api.OK {
		return
	}
	if n, e := name.Normal(want); n != want || e != api.OK {
		t.Errorf("Normal(%.300q) of what is normal: %.300q, %d", want, n, e)
	}
}

// refused fails if s is told, or not with that error.
func refused(t *testing.T, fault api.Errno, texts ...string) {
	t.Helper()
	for _, s := range texts {
		normal(t, s, "", fault)
	}
}

// labels fails if s isn't told by these labels.
func labels(t *testing.T, s string, want ...string) {
	t.Helper()
	if l := name.Labels(s); !slices.Equal(l, want) {
		t.Errorf("Labels(%.300q): %.300q, not %.300q", s, l, want)
	}
}

// held holds both calls against the second opinions, of s, of s in great letters, with a dot behind and with two.
func held(t *testing.T, s string) {
	t.Helper()
	for _, text := range []string{s, strings.ToUpper(s), s + ".", s + ".."} {
		want, fault := opinion(text)
		normal(t, text, want, fault)
		labels(t, text, labelOpinion(text)...)
	}
	want, fault := name.Normal(s)
	if _, is := addr.Parse(s); is || fault != api.OK || strings.HasSuffix(s, ".") {
		return
	}
	for _, text := range []string{strings.ToUpper(s), s + ".", strings.ToUpper(s) + "."} {
		normal(t, text, want, api.OK)
	}
}

// row is a text of n bytes.
func row(n int) string { return strings.Repeat("a", n) }

// P14.1

func TestNames(t *testing.T) {
	for s, want := range map[string]string{
		"a":                       "a",
		"A":                       "a",
		"a.":                      "a",
		"A.B.":                    "a.b",
		"www.example":             "www.example",
		"WWW.Example.":            "www.example",
		"wWw.EXAMPLE":             "www.example",
		"x_1.a-b":                 "x_1.a-b",
		"_":                       "_",
		"_a._b":                   "_a._b",
		"a_":                      "a_",
		"a--b":                    "a--b",
		"xn--4ca.b":               "xn--4ca.b",
		"1a":                      "1a",
		"a1":                      "a1",
		"1.a":                     "1.a",
		"1.2.3.4.a":               "1.2.3.4.a",
		"1.2.3.4a":                "1.2.3.4a",
		"1.2.3.0x4":               "1.2.3.0x4",
		"1_":                      "1_",
		"1-2":                     "1-2",
		"a.1-2":                   "a.1-2",
		"0x1":                     "0x1",
		"abcdefghijklmnopqrstuvw": "abcdefghijklmnopqrstuvw",
		"XYZ0123456789_z":         "xyz0123456789_z",
	} {
		normal(t, s, want, api.OK)
	}
}

func TestAddresses(t *testing.T) {
	for s, want := range map[string]string{
		"1.2.3.4":               "1.2.3.4",
		"0.0.0.0":               "0.0.0.0",
		"255.255.255.255":       "255.255.255.255",
		"::":                    "::",
		"::1":                   "::1",
		"0:0::A":                "::a",
		"0:0:0:0:0:0:0:0":       "::",
		"2001:DB8:0:0::A0":      "2001:db8::a0",
		"::ffff:1.2.3.4":        "1.2.3.4",
		"::FFFF:102:304":        "1.2.3.4",
		"::1.2.3.4":             "::102:304",
		"0:0:0:0:0:ffff:0:0":    "0.0.0.0",
		"1:2:3:4:5:6:7:8":       "1:2:3:4:5:6:7:8",
		"1:0:0:4:0:0:0:8":       "1:0:0:4::8",
		"0001:0002::0F":         "1:2::f",
		"ABCD:EF01::":           "abcd:ef01::",
		"1:2:3:4:5:6:1.2.3.255": "1:2:3:4:5:6:102:3ff",
	} {
		normal(t, s, want, api.OK)
	}
	refused(t, api.ErrName, "1.2.3.4.", "::1.", "::.", "1.2.3", "1.2.3.4.5", "1.2.3.04", "1.2.3.256", "256.1.1.1", "01.2.3.4", "[::1]", "::1%a", "::1%1", "1.2.3.4:80", "::1/64", "1.2.3.4/8", "1:2", ":", ":::", " 1.2.3.4", "1.2.3.4 ", "::g", "::12345", "::ffff:1.2.3.4.")
}

func TestNone(t *testing.T) {
	refused(t, api.ErrNone, "", ".")
}

func TestWrong(t *testing.T) {
	refused(t, api.ErrName, "..", "...", "a..", "a..b", ".a", ".a.", "..a", "a.b..", "a...b", ". ", " .")
	refused(t, api.ErrName, "a.12", "12", "0", "12.", "a.0.", "a.b.1", "1.2", "a.0123456789", "00", "123456789012345678901234567890", "a."+strings.Repeat("1", 63))
	refused(t, api.ErrName, "-", "--", "-a", "a-", "-a-", "a-.b", "-a.b", "a.-b", "a.b-", "a.b-.", "a.-", "-.a", "1.-2", "-1", "1-")
	refused(t, api.ErrName, "a b", " a", "a ", "a\t", "a\n", "a\r\n", "\x00", "a\x00b", "a\x7f", "\u00e4", "a.\u00e4", "\xff", "a\xffb", "\xc3", "\ufffd", "\u212a", "\u017f.a", "\u0661a", "a\u3002b", "*", "*.a", "a.*", "a/b", "a:80", "a@b", "a+b", "a,b", "a'b", "%61")
}

// TestEveryByte has each byte at each place of a label, and of a name.
func TestEveryByte(t *testing.T) {
	for i := range 256 {
		one := string([]byte{byte(i)})
		for _, s := range []string{one, one + "a", "a" + one, "a" + one + "b", "b." + one, one + ".b", "b." + one + "a", "b.a" + one, "a" + one + ".b", "b.a" + one + "b", "1" + one, one + "1", "1.2.3." + one, "::" + one, "a.1" + one, "\xc3" + one, "a\xe2\x82" + one} {
			held(t, s)
		}
		for c := range 256 {
			s := one + string([]byte{byte(c)})
			want, fault := opinion(s)
			normal(t, s, want, fault)
			want, fault = opinion("a." + s)
			normal(t, "a."+s, want, fault)
		}
	}
}

func TestLengths(t *testing.T) {
	for n := 1; n < 600; n++ {
		held(t, row(n))
		held(t, row(n)+".b")
		held(t, "b."+row(n))
		held(t, "b."+row(n)+".b")
		held(t, "b-"+row(n))
		held(t, strings.Repeat("1", n))
		held(t, strings.Repeat("1", n)+".b")
		held(t, strings.Repeat("a.", n))
		held(t, strings.Repeat("a.", n)+"b")
		held(t, strings.Repeat(".", n))
		held(t, strings.Repeat(row(50)+".", n/51)+row(n%51))
	}
	for _, end := range []string{"", "."} {
		normal(t, row(63)+end, row(63), api.OK)
		normal(t, row(63)+".b"+end, row(63)+".b", api.OK)
		normal(t, "b."+row(63)+end, "b."+row(63), api.OK)
		refused(t, api.ErrName, row(64)+end, row(64)+".b"+end, "b."+row(64)+end, "b."+row(64)+".b"+end, row(253)+end)
		full := row(63) + "." + row(63) + "." + row(63) + "." + row(61)
		normal(t, full+end, full, api.OK)
		normal(t, strings.ToUpper(full)+end, full, api.OK)
		normal(t, full[1:]+end, full[1:], api.OK)
		refused(t, api.ErrLength, full+"a"+end, "b"+full+end, full+".."+end, full+"\xff"+end, row(254)+end, strings.Repeat("a.", 127)+"."+end)
		normal(t, strings.Repeat("a.", 126)+"b"+end, strings.Repeat("a.", 126)+"b", api.OK)
	}
}

// TestFirstError has texts with more than one thing wrong: the first one is told.
func TestFirstError(t *testing.T) {
	for _, s := range []string{strings.Repeat("1", 254), strings.Repeat("-", 254), strings.Repeat(".", 255), strings.Repeat(" ", 254), strings.Repeat("\xff", 254), row(64) + "." + row(200), "." + row(253), strings.Repeat("::1", 100), strings.Repeat("1.", 130)} {
		refused(t, api.ErrLength, s)
	}
	refused(t, api.ErrName, strings.Repeat("1", 253), strings.Repeat("-", 253), strings.Repeat(".", 254), strings.Repeat(" ", 253), strings.Repeat("\xff", 253), strings.Repeat("\u00e4", 126), strings.Repeat("1.", 126)+"1")
}

// P14.2

func TestLabels(t *testing.T) {
	labels(t, "a", "a")
	labels(t, "a.b", "b", "a")
	labels(t, "a.b.c", "c", "b", "a")
	labels(t, "www.example", "example", "www")
	labels(t, "a.a.b.a", "a", "b", "a", "a")
	labels(t, "A.B", "B", "A")
	labels(t, "", "")
	labels(t, ".", "", "")
	labels(t, "..", "", "", "")
	labels(t, "a.", "", "a")
	labels(t, ".a", "a", "")
	labels(t, "a..b", "b", "", "a")
	labels(t, "*.a", "a", "*")
	labels(t, "a b.\xff.\u00e4", "\u00e4", "\xff", "a b")
	labels(t, "a\u3002b", "a\u3002b")
	labels(t, "1.2", "2", "1")
	labels(t, "1.2.3", "3", "2", "1")
	labels(t, "1.2.3.4", "1.2.3.4")
	labels(t, "255.255.255.255", "255.255.255.255")
	labels(t, "1.2.3.4.", "", "4", "3", "2", "1")
	labels(t, "1.2.3.4.5", "5", "4", "3", "2", "1")
	labels(t, "1.2.3.04", "04", "3", "2", "1")
	labels(t, "1.2.3.256", "256", "3", "2", "1")
	labels(t, "::1", "::1")
	labels(t, "0:0::A", "0:0::A")
	labels(t, "::ffff:1.2.3.4", "::ffff:1.2.3.4")
	labels(t, "::1.2.3.4", "::1.2.3.4")
	labels(t, "::1.2.3", "3", "2", "::1")
	labels(t, "[::1.2.3.4]", "4]", "3", "2", "[::1")
	labels(t, "::1.", "", "::1")
	labels(t, "::1.a", "a", "::1")
}

func TestManyLabels(t *testing.T) {
	var want []string
	for n := range 600 {
		one := row(n%7) + string(rune('b'+n%20))
		want = append([]string{one}, want...)
		turned := slices.Clone(want)
		slices.Reverse(turned)
		labels(t, strings.Join(turned, "."), want...)
	}
}

// P14.3

// TestMade makes names of labels that may be, and addresses, and texts that are neither by one byte.
func TestMade(t *testing.T) {
	const inner, outer = "abcxyz019_-", "abcxyz019_"
	source := rand.New(rand.NewSource(14))
	for range 4000 {
		parts := make([]string, 1+source.Intn(5))
		for i := range parts {
			part := make([]byte, 1+source.Intn(1+source.Intn(50)))
			for k := range part {
				part[k] = inner[source.Intn(len(inner))]
			}
			part[0], part[len(part)-1] = outer[source.Intn(len(outer))], outer[source.Intn(len(outer))]
			parts[i] = string(part)
		}
		parts[len(parts)-1] += "q"
		s := strings.Join(parts, ".")
		if len(s) > 253 {
			continue
		}
		normal(t, s, s, api.OK)
		normal(t, strings.ToUpper(s)+".", s, api.OK)
		slices.Reverse(parts)
		labels(t, s, parts...)
		held(t, s)
		at := source.Intn(len(s))
		held(t, s[:at]+string([]byte{byte(source.Intn(256))})+s[at:])
		var a api.Addr
		for i := range a {
			a[i] = byte(source.Intn(256) * source.Intn(2))
		}
		for _, text := range []string{addr.Print(a), addr.Print(addr.Of4([4]byte(a[:4])))} {
			normal(t, text, text, api.OK)
			normal(t, strings.ToUpper(text), text, api.OK)
			refused(t, api.ErrName, text+".")
			held(t, text)
		}
	}
}

// TestLikely holds rows of likely pieces against the second opinions.
func TestLikely(t *testing.T) {
	source := rand.New(rand.NewSource(14))
	pieces := []string{".", ".", ".", "-", "_", "a", "B", "1", "22", "255", "::", ":", "ffff", row(30), row(63), "1.2.3.4", "\xff", " ", "\u00e4"}
	for range 30000 {
		var b strings.Builder
		for range source.Intn(10) {
			b.WriteString(pieces[source.Intn(len(pieces))])
		}
		held(t, b.String())
	}
}

// TestTurned turns a byte of texts, at each place, into each other, drops it, doubles it, and cuts the texts there.
func TestTurned(t *testing.T) {
	for _, s := range []string{"WWW.Example.", "x_1.a-b", "1.2.3.4", "2001:db8::A", "::1.2.3.4"} {
		for i := range len(s) {
			b := []byte(s)
			for c := range 256 {
				b[i] = byte(c)
				held(t, string(b))
			}
			held(t, s[:i])
			held(t, s[i:])
			held(t, s[:i]+s[i+1:])
			held(t, s[:i]+s[i:i+1]+s[i:])
		}
	}
}

// W6

// within says whether part lies in the memory of s.
func within(part, s string) bool {
	if part == "" {
		return false
	}
	at, from := uintptr(unsafe.Pointer(unsafe.StringData(part))), uintptr(unsafe.Pointer(unsafe.StringData(s)))
	return at >= from && at < from+uintptr(len(s))
}

func TestMemory(t *testing.T) {
	for _, s := range []string{"a", "a.b", "a.b.", "A.b", "1.2.3.4", "::1", "0:0::1", row(63) + "." + row(63), "a b.c", "..", strings.Repeat("a.", 5000)} {
		if n, _ := name.Normal(s); within(n, s) {
			t.Errorf("Normal(%.60q) shares memory", s)
		}
		l := name.Labels(s)
		for _, label := range l {
			if within(label, s) {
				t.Errorf("Labels(%.60q) shares memory", s)
			}
		}
		more := append(l, "z")
		if again := name.Labels(s); !slices.Equal(again, more[:len(l)]) {
			t.Errorf("Labels(%.60q) again: %.60q", s, again)
		}
	}
}

// W1: great texts end, and are told right.

func TestGreatTexts(t *testing.T) {
	const n = 1 << 21
	refused(t, api.ErrLength, row(n), strings.Repeat(".", n), strings.Repeat("a.", n/2), strings.Repeat(":", n), strings.Repeat("0:", n/2), strings.Repeat("1.", n/2), strings.Repeat("\xff", n))
	labels(t, row(n), row(n))
	labels(t, strings.Repeat(":", n), strings.Repeat(":", n))
	labels(t, strings.Repeat(".", n), make([]string, n+1)...)
	labels(t, strings.Repeat("a.", n/2), append([]string{""}, slices.Repeat([]string{"a"}, n/2)...)...)
}

func FuzzNames(f *testing.F) {
	for _, s := range []string{"WWW.Example.", "x_1.a-b", "1.2.3.4", "1.2.3.4.", "0:0::A", "::1.2.3.4", "a..b", "-a", "a.12", "", ".", "\u00e4", row(64)} {
		f.Add(s)
	}
	f.Fuzz(held)
}
