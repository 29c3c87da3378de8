package addr_test

import (
	"encoding/hex"
	"math"
	"math/big"
	"math/rand"
	"net/netip"
	"regexp"
	"strconv"
	"strings"
	"testing"

	"hagioscope/addr"
	"hagioscope/api"
)

// of is the address whose bytes are told in base 16.
func of(t *testing.T, digits string) api.Addr {
	t.Helper()
	b, err := hex.DecodeString(strings.ReplaceAll(digits, " ", ""))
	if err != nil || len(b) != 16 {
		t.Fatalf("no address: %q", digits)
	}
	return api.Addr(b)
}

// parsed fails if what Parse answers of s is not the address, and true.
func parsed(t *testing.T, s string, want api.Addr) {
	t.Helper()
	if got, ok := addr.Parse(s); got != want || !ok {
		t.Errorf("Parse(%q): %x %t, not %x", s, got, ok, want)
	}
}

// refused fails if Parse takes s, or answers something beside its false.
func refused(t *testing.T, s string) {
	t.Helper()
	if got, ok := addr.Parse(s); ok || got != (api.Addr{}) {
		t.Errorf("Parse(%q): %x %t", s, got, ok)
	}
}

// asNetip holds Parse against the library's reader, which takes the same texts, but for those that tell a zone.
func asNetip(t *testing.T, s string) {
	t.Helper()
	want, err := netip.ParseAddr(s)
	if err != nil || want.Zone() != "" {
		refused(t, s)
		return
	}
	parsed(t, s, api.Addr(want.As16()))
}

// randomAddrs are addresses in which bytes 0, ff and others are mixed, the same ones in each run.
func randomAddrs(n int) []api.Addr {
	source := rand.New(rand.NewSource(3))
	out := make([]api.Addr, n)
	for i := range out {
		for j := range out[i] {
			switch source.Intn(4) {
			case 0:
				out[i][j] = 0xff
			case 1:
				out[i][j] = byte(source.Intn(256))
			}
		}
		if source.Intn(4) == 0 {
			copy(out[i][:], of4Head)
		}
	}
	return out
}

// of4Head is what stands ahead of the last bytes of an address of four.
const of4Head = "\x00\x00\x00\x00\x00\x00\x00\x00\x00\x00\xff\xff"

// P3.1

func TestOf4(t *testing.T) {
	for _, b := range [][4]byte{{}, {1, 2, 3, 4}, {255, 255, 255, 255}, {0, 0, 0, 1}, {127, 0, 0, 0}, {10, 255, 3, 128}} {
		want := api.Addr([]byte(of4Head + string(b[:])))
		if got := addr.Of4(b); got != want {
			t.Errorf("Of4(%v): %x, not %x", b, got, want)
		}
	}
}

func TestFour(t *testing.T) {
	for _, b := range [][4]byte{{}, {1, 2, 3, 4}, {255, 255, 255, 255}} {
		a := addr.Of4(b)
		if !addr.Four(a) {
			t.Errorf("Four(%x): false", a)
		}
		for place := range a {
			for n := range 256 {
				other := a
				other[place] = byte(n)
				if want := place >= 12 || other == a; addr.Four(other) != want {
					t.Errorf("Four(%x): %t", other, !want)
				}
			}
		}
	}
}

func TestFourWritten(t *testing.T) {
	for digits, want := range map[string]bool{
		"00000000 00000000 00000000 00000000": false,
		"00000000 00000000 00000000 01020304": false,
		"00000000 00000000 0000ffff 00000000": true,
		"00000000 00000000 0000ffff ffffffff": true,
		"00000000 00000000 0000fffe 01020304": false,
		"00000000 00000000 0000ff00 01020304": false,
		"00000000 00000000 000000ff 01020304": false,
		"00000000 00000000 ffff0000 01020304": false,
		"00000000 00000000 00ffff00 01020304": false,
		"00000000 00000000 ffffffff 01020304": false,
		"01000000 00000000 0000ffff 01020304": false,
		"0000ffff 01020304 00000000 00000000": false,
		"ffffffff ffffffff ffffffff ffffffff": false,
	} {
		if got := addr.Four(of(t, digits)); got != want {
			t.Errorf("Four(%s): %t", digits, got)
		}
	}
}

func TestMaskWritten(t *testing.T) {
	a := of(t, "ffffffff 7fffffff ffffffff ffffffa5")
	for bits, want := range map[int]string{
		math.MinInt: "00000000 00000000 00000000 00000000",
		-128:        "00000000 00000000 00000000 00000000",
		-1:          "00000000 00000000 00000000 00000000",
		0:           "00000000 00000000 00000000 00000000",
		1:           "80000000 00000000 00000000 00000000",
		7:           "fe000000 00000000 00000000 00000000",
		8:           "ff000000 00000000 00000000 00000000",
		9:           "ff800000 00000000 00000000 00000000",
		32:          "ffffffff 00000000 00000000 00000000",
		33:          "ffffffff 00000000 00000000 00000000",
		34:          "ffffffff 40000000 00000000 00000000",
		64:          "ffffffff 7fffffff 00000000 00000000",
		95:          "ffffffff 7fffffff fffffffe 00000000",
		96:          "ffffffff 7fffffff ffffffff 00000000",
		120:         "ffffffff 7fffffff ffffffff ffffff00",
		121:         "ffffffff 7fffffff ffffffff ffffff80",
		127:         "ffffffff 7fffffff ffffffff ffffffa4",
		128:         "ffffffff 7fffffff ffffffff ffffffa5",
		129:         "ffffffff 7fffffff ffffffff ffffffa5",
		256:         "ffffffff 7fffffff ffffffff ffffffa5",
		math.MaxInt: "ffffffff 7fffffff ffffffff ffffffa5",
	} {
		if got := addr.Mask(a, bits); got != of(t, want) {
			t.Errorf("Mask(.., %d): %x, not %s", bits, got, want)
		}
	}
}

// masked is a second opinion on Mask, by numbers without an end.
func masked(a api.Addr, bits int) api.Addr {
	low := uint(128 - min(max(bits, 0), 128))
	n := new(big.Int).SetBytes(a[:])
	n.Rsh(n, low).Lsh(n, low)
	var out api.Addr
	n.FillBytes(out[:])
	return out
}

func TestMaskEveryBit(t *testing.T) {
	ones := of(t, "ffffffff ffffffff ffffffff ffffffff")
	for _, a := range append(randomAddrs(50), ones, api.Addr{}) {
		for bits := -300; bits <= 300; bits++ {
			got := addr.Mask(a, bits)
			if got != masked(a, bits) {
				t.Errorf("Mask(%x, %d): %x", a, bits, got)
			}
			if addr.Mask(got, bits) != got {
				t.Errorf("Mask(%x, %d) again is another", a, bits)
			}
		}
		for _, bits := range []int{math.MinInt, math.MinInt + 1, math.MinInt + 128, math.MaxInt - 128, math.MaxInt - 1, math.MaxInt} {
			if got := addr.Mask(a, bits); got != masked(a, bits) {
				t.Errorf("Mask(%x, %d): %x", a, bits, got)
			}
		}
	}
}

// P3.2

func TestParseDotted(t *testing.T) {
	for s, want := range map[string][4]byte{
		"0.0.0.0":         {},
		"1.2.3.4":         {1, 2, 3, 4},
		"9.10.99.100":     {9, 10, 99, 100},
		"199.200.249.250": {199, 200, 249, 250},
		"255.255.255.255": {255, 255, 255, 255},
		"255.0.0.0":       {255, 0, 0, 0},
		"0.255.0.0":       {0, 255, 0, 0},
		"0.0.255.0":       {0, 0, 255, 0},
		"0.0.0.255":       {0, 0, 0, 255},
	} {
		parsed(t, s, api.Addr([]byte(of4Head+string(want[:]))))
	}
}

func TestParseGroups(t *testing.T) {
	for s, want := range map[string]string{
		"1:2:3:4:5:6:7:8":      "00010002 00030004 00050006 00070008",
		"0:0:0:0:0:0:0:0":      "00000000 00000000 00000000 00000000",
		"::":                   "00000000 00000000 00000000 00000000",
		"::1":                  "00000000 00000000 00000000 00000001",
		"1::":                  "00010000 00000000 00000000 00000000",
		"1::2":                 "00010000 00000000 00000000 00000002",
		"::0":                  "00000000 00000000 00000000 00000000",
		"0::0":                 "00000000 00000000 00000000 00000000",
		"0:0::1":               "00000000 00000000 00000000 00000001",
		"1:2::3:4":             "00010002 00000000 00000000 00030004",
		"1:0:0::2:0":           "00010000 00000000 00000000 00020000",
		"1:2:3:4:5:6:7::":      "00010002 00030004 00050006 00070000",
		"::2:3:4:5:6:7:8":      "00000002 00030004 00050006 00070008",
		"1::3:4:5:6:7:8":       "00010000 00030004 00050006 00070008",
		"1:2:3:4::6:7:8":       "00010002 00030004 00000006 00070008",
		"1:2:3:4:5:6::8":       "00010002 00030004 00050006 00000008",
		"1:2:3:4:5:6::":        "00010002 00030004 00050006 00000000",
		"abcd:EF01:aBcD::fFfF": "abcdef01 abcd0000 00000000 0000ffff",
		"2001:DB8::a0":         "20010db8 00000000 00000000 000000a0",
		"0000::00ff":           "00000000 00000000 00000000 000000ff",
		"0001:020:3::":         "00010020 00030000 00000000 00000000",
		"10:200:3000::255":     "00100200 30000000 00000000 00000255",
		"::ffff:102:304":       "00000000 00000000 0000ffff 01020304",
	} {
		parsed(t, s, of(t, want))
	}
}

func TestParseGroupsAndDotted(t *testing.T) {
	for s, want := range map[string]string{
		"::1.2.3.4":                    "00000000 00000000 00000000 01020304",
		"::0.0.0.0":                    "00000000 00000000 00000000 00000000",
		"::255.254.253.252":            "00000000 00000000 00000000 fffefdfc",
		"::ffff:1.2.3.4":               "00000000 00000000 0000ffff 01020304",
		"::FFFF:0:1.2.3.4":             "00000000 00000000 ffff0000 01020304",
		"1:2:3:4:5:6:1.2.3.4":          "00010002 00030004 00050006 01020304",
		"0:0:0:0:0:ffff:1.2.3.4":       "00000000 00000000 0000ffff 01020304",
		"1:2:3:4:5::1.2.3.4":           "00010002 00030004 00050000 01020304",
		"::2:3:4:5:6:1.2.3.4":          "00000002 00030004 00050006 01020304",
		"1:2:3::5:6:1.2.3.4":           "00010002 00030000 00050006 01020304",
		"64:ff9b::192.0.2.33":          "0064ff9b 00000000 00000000 c0000221",
		"1::1.2.3.4":                   "00010000 00000000 00000000 01020304",
		"a:b:c:d:e:f:100.200.255.0":    "000a000b 000c000d 000e000f 64c8ff00",
		"0000:0000:0000::0000:0.0.0.1": "00000000 00000000 00000000 00000001",
	} {
		parsed(t, s, of(t, want))
	}
}

// wrong are texts that tell no address.
var wrong = []string{
	// no dotted text
	"", " ", "1", "12", "1.2", "1.2.3", "1.2.3.", ".1.2.3", "1.2.3.4.", ".1.2.3.4", "1.2.3.4.5", "1..2.3", "1..3.4", "...", "....",
	"256.1.1.1", "1.256.1.1", "1.1.256.1", "1.1.1.256", "1.2.3.999", "1.2.3.1000", "1.2.3.4294967296", "1.2.3.18446744073709551616",
	"01.2.3.4", "1.02.3.4", "1.2.003.4", "1.2.3.00", "00.0.0.0", "1.2.3.04",
	"-1.2.3.4", "+1.2.3.4", " 1.2.3.4", "1.2.3.4 ", "1. 2.3.4", "1.2.3.4\n", "1.2.3.4\x00", "\t1.2.3.4",
	"a.2.3.4", "1.2.3.f", "0x1.2.3.4", "1,2,3,4", "1.2.3.4/8", "1.2.3.4%a", "16909060", "0x01020304", "1.2.3.\uff14", "1.2.3.\xff", "www.example",
	// no groups
	":", ":::", "::::", ":::::", "1:", ":1", "1:2", "1:2:", ":1:2", "1:2:3:4:5:6:7", "1:2:3:4:5:6:7:", ":2:3:4:5:6:7:8",
	"1:2:3:4:5:6:7:8:", ":1:2:3:4:5:6:7:8", "1:2:3:4:5:6:7:8:9", "0:0:0:0:0:0:0:0:0",
	"1:::", ":::1", "1:::2", "1::2::3", "::1::", "1::::2", "::1:", ":1::", "1::2:", ":1::2", "::::1", "1::2:::",
	"1:2:3:4:5:6:7:8::", "::1:2:3:4:5:6:7:8", "1:2:3:4::5:6:7:8", "1:2:3:4:5:6:7::8", "1::2:3:4:5:6:7:8", "1:2:3:4:5:6:7:8:9::", "::1:2:3:4:5:6:7:8:9",
	"12345::", "::12345", "00000::", "::00001", "1:2:3:4:5:6:7:12345", "10000:2:3:4:5:6:7:8", "::fffff",
	"g::", "::g", "::-1", "::+1", "::0x1", " ::", ":: ", " ::1", "::1 ", "1 ::2", "1: :2", "::1\n", "::\x00", "::1\x00", "::\uff11", "::\xff", "::\u00e4",
	"::1%eth0", "::%", "fe80::1%0", "[::1]", "[::]", "::1/128", "::/0", "::1]:80", "1.2.3.4:80",
	// a dotted text where none may be
	"1.2.3.4:", ":1.2.3.4", "1.2.3.4::", "1.2.3.4::1", "1.2.3.4:1", "::1.2.3.4:5", "::1.2.3.4:5:6", "::1.2.3.4::", "1:1.2.3.4::", "1:1.2.3.4::2", "1:2:3:4:5:6:1.2.3.4::",
	"1.2.3.4:1:2:3:4:5:6", "1:1.2.3.4:2:3:4:5:6", "1:2:3:4:5:1.2.3.4:6", "1.2.3.4::1.2.3.4", "::1.2.3.4:1.2.3.4", "1:2:3:4:1.2.3.4:1.2.3.4",
	"1:2:3:4:5:1.2.3.4", "1:2:3:4:5:6:7:1.2.3.4", "1:2:3:4:5:6:7:8:1.2.3.4", "1:1.2.3.4",
	"1:2:3:4:5:6::1.2.3.4", "::1:2:3:4:5:6:1.2.3.4", "1:2:3::4:5:6:1.2.3.4", "1::2:3:4:5:6:1.2.3.4", "1:2:3:4:5:6:7::1.2.3.4",
	// a dotted text that is none
	"::1.2.3", "::1.2.3.", "::.1.2.3", "::1.2.3.4.5", "::1.2.3.4.", "::1..2.3", "::256.2.3.4", "::1.2.3.256", "::01.2.3.4", "::1.2.3.00", "::a.2.3.4", "::1.2.3.f", "::.", "::...",
	"::ffff:1.2.3", "::ffff:1.2.3.256", "::ffff:1.2.3.04", "1:2:3:4:5:6:1.2.3", "1:2:3:4:5:6:1.2.3.256", "::1.2.3.4 ", ":: 1.2.3.4",
}

func TestParseWrong(t *testing.T) {
	for _, s := range wrong {
		refused(t, s)
	}
}

// TestParseCounts tries each number of groups ahead of and behind ::, or with no ::, with and without a dotted text at the end.
func TestParseCounts(t *testing.T) {
	row := func(n int) string { return strings.TrimSuffix(strings.Repeat("a:", n), ":") }
	for n := range 12 {
		for _, last := range []string{"", "1.2.3.4"} {
			parts, count := row(n), n
			if last != "" {
				parts, count = strings.TrimPrefix(row(n)+":"+last, ":"), n+2
			}
			if _, ok := addr.Parse(parts); ok != (count == 8 || parts == last && last != "") {
				t.Errorf("Parse(%q): %t", parts, ok)
			}
			for ahead := range 12 {
				s := row(ahead) + "::" + parts
				if _, ok := addr.Parse(s); ok != (ahead+count <= 7) {
					t.Errorf("Parse(%q): %t", s, ok)
				}
				if _, ok := addr.Parse(row(ahead) + "::" + row(n) + "::" + parts); ok {
					t.Errorf("Parse(%q): two of ::", s)
				}
				if last != "" {
					refused(t, parts+"::"+row(ahead))
				}
			}
		}
	}
}

// TestParseEveryNumber tries each text of digits that a group, or a number of a dotted text, may have.
func TestParseEveryNumber(t *testing.T) {
	for n := range 1 << 16 {
		small := strconv.FormatInt(int64(n), 16)
		padded := strings.Repeat("0", 4-len(small)) + small
		for _, s := range []string{small, strings.ToUpper(small), padded, strings.ToUpper(padded)} {
			parsed(t, s+"::", api.Addr{byte(n >> 8), byte(n)})
			parsed(t, "::"+s, api.Addr{14: byte(n >> 8), 15: byte(n)})
		}
		refused(t, "::0"+padded)
	}
	for n := range 1000 {
		text := strconv.Itoa(n)
		for place := range 4 {
			parts := []string{"1", "2", "3", "4"}
			parts[place] = text
			b := [4]byte{1, 2, 3, 4}
			b[place] = byte(n)
			s := strings.Join(parts, ".")
			if n > 255 {
				refused(t, s)
				refused(t, "::"+s)
				continue
			}
			parsed(t, s, api.Addr([]byte(of4Head+string(b[:]))))
			parsed(t, "::"+s, api.Addr{12: b[0], 13: b[1], 14: b[2], 15: b[3]})
			parts[place] = "0" + text
			refused(t, strings.Join(parts, "."))
		}
	}
}

// seeds are texts of all shapes that are right.
var seeds = []string{"1.2.3.4", "10.255.0.99", "::", "::1", "1::", "a::b", "1:2:3:4:5:6:7:8", "1:2:3:4:5:6:7::", "::ffff:1.2.3.4", "1:2:3:4:5:6:1.2.3.4", "1:2:3:4:5::1.2.3.4", "2001:DB8::00a0"}

// TestParseNeighbours holds all texts that differ from a right one in one byte against a second opinion.
func TestParseNeighbours(t *testing.T) {
	for _, s := range seeds {
		asNetip(t, s)
		for at := range len(s) + 1 {
			for i := range 256 {
				one := string([]byte{byte(i)})
				asNetip(t, s[:at]+one+s[at:])
				if at < len(s) {
					asNetip(t, s[:at]+one+s[at+1:])
				}
			}
			if at < len(s) {
				asNetip(t, s[:at]+s[at+1:])
				asNetip(t, s[:at]+s[at:at+1]+s[at:])
			}
			asNetip(t, s[:at])
			asNetip(t, s[at:])
		}
	}
	for _, s := range wrong {
		asNetip(t, s)
	}
}

// TestParseShort holds all texts of a few bytes against a second opinion.
func TestParseShort(t *testing.T) {
	var try func(s string, more int)
	try = func(s string, more int) {
		asNetip(t, s)
		for _, c := range "0fg:." {
			if more > 0 {
				try(s+string(c), more-1)
			}
		}
	}
	try("", 7)
	try("1:1:1:1:1:", 6)
	try("::1.2.", 5)
}

// P3.3

func TestPrintWritten(t *testing.T) {
	for digits, want := range map[string]string{
		"00000000 00000000 0000ffff 01020304": "1.2.3.4",
		"00000000 00000000 0000ffff 00000000": "0.0.0.0",
		"00000000 00000000 0000ffff ffffffff": "255.255.255.255",
		"00000000 00000000 0000ffff 0a64c800": "10.100.200.0",
		"00000000 00000000 00000000 00000000": "::",
		"00000000 00000000 00000000 00000001": "::1",
		"00010000 00000000 00000000 00000000": "1::",
		"00000000 00000000 00000000 01020304": "::102:304",
		"00000000 00000000 0000fffe 01020304": "::fffe:102:304",
		"00000000 00000000 0000fffe 00000000": "::fffe:0:0",
		"00000000 00000000 ffff0000 01020304": "::ffff:0:102:304",
		"00010000 00000000 0000ffff 01020304": "1::ffff:102:304",
		"00010002 00030004 00050006 00070008": "1:2:3:4:5:6:7:8",
		"20010db8 00000000 00010000 00000001": "2001:db8::1:0:0:1",
		"00010000 00020003 00040005 00060007": "1:0:2:3:4:5:6:7",
		"00000001 00000002 00000003 00000004": "0:1:0:2:0:3:0:4",
		"00010000 00020000 00030000 00040000": "1:0:2:0:3:0:4:0",
		"00000000 00010000 00000000 00020003": "0:0:1::2:3",
		"00000000 00010000 00000002 00000000": "::1:0:0:2:0:0",
		"00010000 00000002 00030000 00000004": "1::2:3:0:0:4",
		"00010000 00000002 00000000 00000003": "1:0:0:2::3",
		"00010002 00030004 00050006 00070000": "1:2:3:4:5:6:7:0",
		"00010002 00030004 00050006 00000000": "1:2:3:4:5:6::",
		"00000002 00030004 00050006 00070008": "0:2:3:4:5:6:7:8",
		"00000000 00030004 00050006 00070008": "::3:4:5:6:7:8",
		"00010000 00000004 00050006 00070000": "1::4:5:6:7:0",
		"00000002 00000000 00050006 00070000": "0:2::5:6:7:0",
		"abcdef01 001000ff 0a000001 0fff8000": "abcd:ef01:10:ff:a00:1:fff:8000",
		"ffffffff ffffffff ffffffff ffffffff": "ffff:ffff:ffff:ffff:ffff:ffff:ffff:ffff",
	} {
		if got := addr.Print(of(t, digits)); got != want {
			t.Errorf("Print(%s): %q, not %q", digits, got, want)
		}
	}
}

// printed is a second opinion on Print: the whole text, and in it the longest of the rows of 0, looked for from the greatest size on.
func printed(a api.Addr) string {
	if strings.HasPrefix(string(a[:]), of4Head) {
		return strconv.Itoa(int(a[12])) + "." + strconv.Itoa(int(a[13])) + "." + strconv.Itoa(int(a[14])) + "." + strconv.Itoa(int(a[15]))
	}
	var parts []string
	for i := 0; i < 16; i += 2 {
		small := strings.TrimLeft(hex.EncodeToString(a[i:i+2]), "0")
		if small == "" {
			small = "0"
		}
		parts = append(parts, small)
	}
	for size := 8; size >= 2; size-- {
		for at := 0; at+size <= 8; at++ {
			if strings.Join(parts[at:at+size], "") == strings.Repeat("0", size) {
				return strings.Join(parts[:at], ":") + "::" + strings.Join(parts[at+size:], ":")
			}
		}
	}
	return strings.Join(parts, ":")
}

// printedRight holds what Print answers of a against two second opinions.
func printedRight(t *testing.T, a api.Addr) {
	t.Helper()
	got := addr.Print(a)
	if want := printed(a); got != want {
		t.Errorf("Print(%x): %q, not %q", a, got, want)
	}
	if want := netip.AddrFrom16(a).Unmap().String(); got != want {
		t.Errorf("Print(%x): %q, the library says %q", a, got, want)
	}
}

// zeroPatterns are addresses of all choices of groups that are 0.
func zeroPatterns() []api.Addr {
	var out []api.Addr
	for pattern := range 1 << 8 {
		for _, n := range []int{0x0001, 0x0100, 0xffff} {
			var a api.Addr
			for i := range 8 {
				if pattern>>i&1 == 1 {
					a[2*i], a[2*i+1] = byte(n>>8), byte(n)
				}
			}
			out = append(out, a)
		}
	}
	return out
}

func TestPrintZeroPatterns(t *testing.T) {
	for _, a := range zeroPatterns() {
		printedRight(t, a)
	}
	for _, a := range randomAddrs(5000) {
		printedRight(t, a)
	}
}

func TestPrintEveryNumber(t *testing.T) {
	for n := range 1 << 16 {
		high, low := byte(n>>8), byte(n)
		small := strconv.FormatInt(int64(n), 16)
		a := api.Addr{1: 1, 3: 1, 5: 1, 7: 1, 9: 1, 11: 1, 12: high, 13: low, 15: 1}
		if got, want := addr.Print(a), "1:1:1:1:1:1:"+small+":1"; got != want {
			t.Errorf("%q, not %q", got, want)
		}
	}
	for n := range 256 {
		for place := range 4 {
			b := [4]byte{1, 2, 3, 4}
			parts := []string{"1", "2", "3", "4"}
			b[place], parts[place] = byte(n), strconv.Itoa(n)
			if got, want := addr.Print(addr.Of4(b)), strings.Join(parts, "."); got != want {
				t.Errorf("%q, not %q", got, want)
			}
		}
	}
}

// P3.4

var printedForm = regexp.MustCompile(`^([0-9.]+|[0-9a-f:]+)$`)

func TestPrintedIsParsed(t *testing.T) {
	all := append(zeroPatterns(), randomAddrs(20000)...)
	for place := range 128 {
		var a api.Addr
		a[place/8] = 1 << (place % 8)
		all = append(all, a, addr.Of4([4]byte(a[12:])))
	}
	told := map[string]api.Addr{}
	for _, a := range all {
		text := addr.Print(a)
		parsed(t, text, a)
		if !printedForm.MatchString(text) {
			t.Errorf("Print(%x): %q", a, text)
		}
		if before, twice := told[text]; twice && before != a {
			t.Errorf("%q is printed of %x and %x", text, before, a)
		}
		told[text] = a
	}
}

// TestOneTextIsPrinted reads texts of one address, which are printed alike.
func TestOneTextIsPrinted(t *testing.T) {
	for want, texts := range map[string][]string{
		"::1":          {"0:0::1", "::0:1", "0::1", "0000::0001", "0:0:0:0:0:0:0:1", "::0.0.0.1", "0::0:0.0.0.1"},
		"1.2.3.4":      {"::ffff:1.2.3.4", "::FFFF:102:304", "0:0:0:0:0:ffff:1.2.3.4", "0:0:0:0:0:ffff:0102:0304", "0::ffff:102:304"},
		"::":           {"0::", "::0", "0::0", "::0.0.0.0", "0:0:0:0:0:0:0:0", "0000:0:0:0:0:0:0.0.0.0"},
		"1::2:0:0:3":   {"1:0:0:0:2:0:0:3", "1:0:0:0:2::3", "1:0::2:0:0:3", "1::0:2:0:0:3", "1::2:0:0.0.0.3"},
		"a:b:c:d::1":   {"A:B:C:D::1", "a:b:c:d:0:0:0:1", "000a:00b:0c:d::0:1", "a:b:c:d::0.0.0.1"},
		"1:0:2:3::":    {"1::2:3:0:0:0:0", "1:0:2:3::0", "1:0:2:3:0::", "1:0:2:3:0:0:0.0.0.0"},
		"1:2:3:4::7:8": {"1:2:3:4:0:0:7:8", "1:2:3:4:0::7:8", "1:2:3:4::0:7:8", "1:2:3:4::0.7.0.8"},
	} {
		for _, s := range append(texts, want) {
			a, ok := addr.Parse(s)
			if got := addr.Print(a); got != want || !ok {
				t.Errorf("%q: %q %t, not %q", s, got, ok, want)
			}
		}
	}
}

// W1: great texts end, and are told right.

func TestGreatTexts(t *testing.T) {
	const n = 1 << 20
	for _, s := range []string{":", "::", ".", "1:", "1.", "1", "0", "f", " ", "::1", ":.", "\xff", "1.2.3.4", "1.2.3.4:"} {
		great := strings.Repeat(s, n)
		for _, s := range []string{great, "::" + great, "1:2:3:4:5:6:7:8" + great, "1.2.3.4" + great, great + "1.2.3.4", great + "::1"} {
			if got, ok := addr.Parse(s); ok || got != (api.Addr{}) {
				t.Errorf("%d bytes from %q on: %x %t", len(s), s[:20], got, ok)
			}
		}
	}
}

// FuzzParse holds what is read, and what is printed of it, against a second opinion.
func FuzzParse(f *testing.F) {
	for _, s := range append(seeds, wrong...) {
		f.Add(s)
	}
	f.Fuzz(func(t *testing.T, s string) {
		asNetip(t, s)
		if a, ok := addr.Parse(s); ok {
			parsed(t, addr.Print(a), a)
		}
	})
}

// FuzzBytes holds what is told of an address against second opinions.
func FuzzBytes(f *testing.F) {
	f.Add([]byte(of4Head+"\x01\x02\x03\x04"), 108)
	f.Add(make([]byte, 16), 0)
	f.Fuzz(func(t *testing.T, b []byte, bits int) {
		var a api.Addr
		copy(a[:], b)
		printedRight(t, a)
		parsed(t, addr.Print(a), a)
		if got := addr.Four(a); got != netip.AddrFrom16(a).Is4In6() {
			t.Errorf("Four(%x): %t", a, got)
		}
		if got := addr.Mask(a, bits); got != masked(a, bits) {
			t.Errorf("Mask(%x, %d): %x", a, bits, got)
		}
	})
}
