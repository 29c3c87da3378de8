package ascii_test

import (
	"math"
	"math/big"
	"regexp"
	"strconv"
	"strings"
	"testing"
	"unsafe"

	"hagioscope/ascii"
)

// odd are texts that are no ASCII, or no runes at all: letters that other tables make small, runes that hold the bits of ASCII, pieces of runes.
var odd = []string{
	"\x80", "\xc4", "\xff", "\xc3", "\xe2\x84", "\xf0\x9f\x98", "\xc1\x81", "\xe0\x81\x81", "\xed\xa0\x80", "\xf4\x90\x80\x80",
	"\ufffd", "\u00c4", "\u00e4", "\u0130", "\u017f", "\u212a", "\u0141", "\u0130A", "\uff21", "\uff11", "\u0661", "\u00a0", "\u2003", "\u3000", "\u0120", "\u0109", "\U00010041", "\U0001f600",
}

// P2.1

func TestLowerWritten(t *testing.T) {
	for s, want := range map[string]string{
		"":                           "",
		"ABCDEFGHIJKLMNOPQRSTUVWXYZ": "abcdefghijklmnopqrstuvwxyz",
		"abcdefghijklmnopqrstuvwxyz": "abcdefghijklmnopqrstuvwxyz",
		"WWW.Example.":               "www.example.",
		"@AZ[`az{":                   "@az[`az{",
		"0189 \t\r\n\x00\x7f":        "0189 \t\r\n\x00\x7f",
		"A\xc4B\xffC":                "a\xc4b\xffc",
		"A\u00c4B\u212aC\U0001f600D": "a\u00c4b\u212ac\U0001f600d",
		"\xe2\x84A\xf0\x9fZ\xc3":     "\xe2\x84a\xf0\x9fz\xc3",
	} {
		if got := ascii.Lower(s); got != want {
			t.Errorf("Lower(%q): %q, not %q", s, got, want)
		}
	}
}

// lowered is a second opinion on Lower, byte by byte.
func lowered(s string) string {
	b := []byte(s)
	for i := range b {
		if at := strings.IndexByte("ABCDEFGHIJKLMNOPQRSTUVWXYZ", b[i]); at >= 0 {
			b[i] = "abcdefghijklmnopqrstuvwxyz"[at]
		}
	}
	return string(b)
}

func TestLowerEveryByte(t *testing.T) {
	for i := range 256 {
		one := string([]byte{byte(i)})
		for _, s := range []string{one, "A" + one + "Z", one + one} {
			if got := ascii.Lower(s); got != lowered(s) {
				t.Errorf("Lower(%q): %q", s, got)
			}
		}
	}
	for _, s := range odd {
		for _, s := range []string{s, "A" + s, s + "Z", "Q" + s + s + "R"} {
			if got := ascii.Lower(s); got != lowered(s) {
				t.Errorf("Lower(%q): %q", s, got)
			}
		}
	}
}

func TestSameEveryPair(t *testing.T) {
	for i := range 256 {
		for j := range 256 {
			a, b := string([]byte{byte(i)}), string([]byte{byte(j)})
			if got := ascii.Same(a, b); got != (lowered(a) == lowered(b)) {
				t.Errorf("Same(%q, %q): %t", a, b, got)
			}
		}
	}
}

func TestSameWritten(t *testing.T) {
	for _, c := range []struct {
		a, b string
		want bool
	}{
		{"", "", true},
		{"", "a", false},
		{"a", "", false},
		{"Host", "hOST", true},
		{"X-y", "x-Y", true},
		{"host", "hosts", false},
		{"hosts", "host", false},
		{"host", "post", false},
		{"[", "{", false},
		{"@", "`", false},
		{"k", "\u212a", false},
		{"s", "\u017f", false},
		{"i", "\u0130", false},
		{"\u00c4", "\u00e4", false},
		{"\u00c4a", "\u00c4A", true},
		{"\xc4", "\xe4", false},
		{"\xc4", "\xff", false},
		{"\xff", "\ufffd", false},
		{"\xffa", "\xffA", true},
		{"a\x00", "A\x00", true},
		{"a\x00", "a", false},
		{" a", "a", false},
	} {
		if got := ascii.Same(c.a, c.b); got != c.want {
			t.Errorf("Same(%q, %q): %t", c.a, c.b, got)
		}
	}
}

func TestTrimWritten(t *testing.T) {
	for s, want := range map[string]string{
		"":                         "",
		" ":                        "",
		"\t":                       "",
		" \t \t\t  ":               "",
		"a":                        "a",
		" a":                       "a",
		"a ":                       "a",
		"\ta":                      "a",
		"a\t":                      "a",
		"\t a b \t":                "a b",
		"  a \t b  ":               "a \t b",
		" \na\r ":                  "\na\r",
		"\r\n":                     "\r\n",
		"\x0ba\x0c":                "\x0ba\x0c",
		"\x00 a \x00":              "\x00 a \x00",
		" \u00a0a\u3000 ":          "\u00a0a\u3000",
		"\u2003a\u0085":            "\u2003a\u0085",
		" \x85\xa0 ":               "\x85\xa0",
		" \xff ":                   "\xff",
		"\t\u00e4 \u00e4\t":        "\u00e4 \u00e4",
		" \U0001f600\t":            "\U0001f600",
		" \xf0\x9f ":               "\xf0\x9f",
		" \u0120\u0109\u2009 ":     "\u0120\u0109\u2009",
		"\t \t\xe2\x84 \xc3 \t \t": "\xe2\x84 \xc3",
	} {
		if got := ascii.Trim(s); got != want {
			t.Errorf("Trim(%q): %q, not %q", s, got, want)
		}
	}
}

func TestTrimEveryByte(t *testing.T) {
	for i := range 256 {
		one := string([]byte{byte(i)})
		inside, alone := one+"x"+one, one
		if i == 0x20 || i == 0x9 {
			inside, alone = "x", ""
		}
		if got := ascii.Trim(" \t" + one + "x" + one + "\t "); got != inside {
			t.Errorf("around x: %q became %q", one, got)
		}
		if got := ascii.Trim(" " + one + "\t"); got != alone {
			t.Errorf("alone: %q became %q", one, got)
		}
	}
}

// P2.2

const signs = "!#$%&'*+-.^_`|~"

func TestKindsEveryByte(t *testing.T) {
	letters := "ABCDEFGHIJKLMNOPQRSTUVWXYZabcdefghijklmnopqrstuvwxyz"
	for i := range 256 {
		token := strings.IndexByte(letters+"0123456789"+signs, byte(i)) >= 0
		visible := i >= 0x21 && i <= 0x7e
		one := string([]byte{byte(i)})
		for _, s := range []string{one, one + "a", "a" + one, "a" + one + "a", one + one} {
			if got := ascii.Token(s); got != token {
				t.Errorf("Token(%q): %t", s, got)
			}
			if got := ascii.Visible(s); got != visible {
				t.Errorf("Visible(%q): %t", s, got)
			}
		}
	}
}

func TestKindsWritten(t *testing.T) {
	for s, want := range map[string][2]bool{
		"":                    {false, false},
		"GET":                 {true, true},
		"x-forwarded-for":     {true, true},
		"aZ09" + signs:        {true, true},
		"/index?a=b":          {false, true},
		"\"(),/:;<=>?@[\\]{}": {false, true},
		"a b":                 {false, false},
		"a\tb":                {false, false},
		" a":                  {false, false},
		"a ":                  {false, false},
		"a\r":                 {false, false},
		"a\n":                 {false, false},
		"a\x00":               {false, false},
		"a\x7f":               {false, false},
		"\x1f":                {false, false},
	} {
		if token, visible := ascii.Token(s), ascii.Visible(s); token != want[0] || visible != want[1] {
			t.Errorf("%q: %t %t, not %t", s, token, visible, want)
		}
	}
	for _, s := range odd {
		for _, s := range []string{s, "a" + s, s + "a"} {
			if ascii.Token(s) || ascii.Visible(s) {
				t.Errorf("%q", s)
			}
		}
	}
}

// P2.3

func TestNumberWritten(t *testing.T) {
	const top = 999999999999999999
	for _, c := range []struct {
		s    string
		most int
		want int // -1: false
	}{
		{"0", 0, 0},
		{"0", -1, -1},
		{"0", math.MinInt, -1},
		{"0", math.MaxInt, 0},
		{"1", 0, -1},
		{"1", 1, 1},
		{"9", 9, 9},
		{"07", 9, -1},
		{"00", 9, -1},
		{"000", 9, -1},
		{"01", 9, -1},
		{"10", 10, 10},
		{"10", 9, -1},
		{"255", 255, 255},
		{"256", 255, -1},
		{"65535", 65535, 65535},
		{"65536", 65535, -1},
		{"1234567890", math.MaxInt, 1234567890},
		{"100000000000000000", math.MaxInt, 100000000000000000},
		{"999999999999999999", math.MaxInt, top},
		{"999999999999999999", top, top},
		{"999999999999999999", top - 1, -1},
		{"1000000000000000000", math.MaxInt, -1},
		{"9223372036854775807", math.MaxInt, -1},
		{"9223372036854775808", math.MaxInt, -1},
		{"18446744073709551617", math.MaxInt, -1},
		{"000000000000000001", math.MaxInt, -1},
		{"0000000000000000000", math.MaxInt, -1},
		{"", math.MaxInt, -1},
		{" ", math.MaxInt, -1},
		{" 1", math.MaxInt, -1},
		{"1 ", math.MaxInt, -1},
		{"1\n", math.MaxInt, -1},
		{"-1", math.MaxInt, -1},
		{"-0", math.MaxInt, -1},
		{"+1", math.MaxInt, -1},
		{"1_0", math.MaxInt, -1},
		{"1.0", math.MaxInt, -1},
		{"1e3", math.MaxInt, -1},
		{"0x1", math.MaxInt, -1},
		{"a", math.MaxInt, -1},
		{"1f", math.MaxInt, -1},
		{"F", math.MaxInt, -1},
		{"1\x00", math.MaxInt, -1},
		{"\uff11", math.MaxInt, -1},
		{"\u0661", math.MaxInt, -1},
		{"1\u0130", math.MaxInt, -1},
		{"1\xff", math.MaxInt, -1},
		{"1\xb1", math.MaxInt, -1},
	} {
		asked(t, "Number("+strconv.Quote(c.s)+", "+strconv.Itoa(c.most)+")", c.want)(ascii.Number(c.s, c.most))
	}
}

// asked fails if n and ok are not what is wanted; -1 wants 0 and false.
func asked(t *testing.T, what string, want int) func(n int, ok bool) {
	t.Helper()
	return func(n int, ok bool) {
		t.Helper()
		if ok != (want >= 0) || n != max(want, 0) {
			t.Errorf("%s: %d %t, wanted %d", what, n, ok, want)
		}
	}
}

func TestHexWritten(t *testing.T) {
	for s, want := range map[string]int{
		"0":        0,
		"00":       0,
		"0000":     0,
		"0001":     1,
		"9":        9,
		"a":        10,
		"f":        15,
		"A":        10,
		"F":        15,
		"fF":       255,
		"00a0":     160,
		"1234":     0x1234,
		"5678":     0x5678,
		"9abc":     0x9abc,
		"dEf0":     0xdef0,
		"ABCD":     0xabcd,
		"ffff":     0xffff,
		"FFFF":     0xffff,
		"":         -1,
		"00000":    -1,
		"12345":    -1,
		"10000":    -1,
		"g":        -1,
		"G":        -1,
		"`":        -1,
		"@":        -1,
		"/":        -1,
		":":        -1,
		"0x1":      -1,
		"-1":       -1,
		"+1":       -1,
		" 1":       -1,
		"1 ":       -1,
		"1_1":      -1,
		"1:":       -1,
		"a\x00":    -1,
		"\u00e4":   -1,
		"\uff21":   -1,
		"\uff11":   -1,
		"a\xff":    -1,
		"\xe1":     -1,
		"\u0141":   -1,
		"ff\u00e4": -1,
	} {
		asked(t, "Hex("+strconv.Quote(s)+")", want)(ascii.Hex(s))
	}
}

func TestDigitsEveryByte(t *testing.T) {
	for i := range 256 {
		one := string([]byte{byte(i)})
		number, hex := -1, -1
		if at := strings.Index("0123456789", one); at >= 0 {
			number = at
		}
		if at := strings.Index("0123456789abcdef", lowered(one)); at >= 0 {
			hex = at
		}
		asked(t, "Number of byte "+strconv.Itoa(i), number)(ascii.Number(one, 9))
		asked(t, "Hex of byte "+strconv.Itoa(i), hex)(ascii.Hex(one))
		asked(t, "Number of 1 and byte "+strconv.Itoa(i), behind(10, number))(ascii.Number("1"+one, 19))
		asked(t, "Hex of 1 and byte "+strconv.Itoa(i), behind(16, hex))(ascii.Hex("1" + one))
	}
}

// behind is the number of a digit that stands behind a 1; -1, if it is none.
func behind(base, digit int) int {
	if digit < 0 {
		return -1
	}
	return base + digit
}

func TestHexAll(t *testing.T) {
	for n := range 1 << 16 {
		small := strconv.FormatInt(int64(n), 16)
		padded := strings.Repeat("0", 4-len(small)) + small
		for _, s := range []string{small, strings.ToUpper(small), padded, strings.ToUpper(padded)} {
			if got, ok := ascii.Hex(s); got != n || !ok {
				t.Fatalf("Hex(%q): %d %t", s, got, ok)
			}
		}
	}
}

// P2.4

func TestLowerAgain(t *testing.T) {
	for _, s := range append([]string{"", "ABC", "x-Y", "@AZ[`az{"}, odd...) {
		once := ascii.Lower(s)
		if again := ascii.Lower(once); again != once {
			t.Errorf("%q: %q, then %q", s, once, again)
		}
		if !ascii.Same(s, once) {
			t.Errorf("%q is not the same as %q", s, once)
		}
	}
}

func TestNumbersOneText(t *testing.T) {
	numbers := []int{0, 1, 999999999999999999}
	for ten := 10; ten <= 100000000000000000; ten *= 10 {
		numbers = append(numbers, ten-1, ten, ten+1, 7*ten+3)
	}
	for _, n := range numbers {
		text := strconv.Itoa(n)
		if got, ok := ascii.Number(text, n); got != n || !ok {
			t.Errorf("Number(%q, %d): %d %t", text, n, got, ok)
		}
		if got, ok := ascii.Number(text, n-1); got != 0 || ok {
			t.Errorf("Number(%q, %d): %d %t", text, n-1, got, ok)
		}
		for _, other := range []string{"0" + text, "00" + text, "+" + text, "-" + text, " " + text, text + " ", text + ".", text + "\x00"} {
			if got, ok := ascii.Number(other, math.MaxInt); got != 0 || ok {
				t.Errorf("Number(%q): %d %t", other, got, ok)
			}
		}
	}
	told := map[int]string{}
	var tell func(text string)
	tell = func(text string) { // every text of up to four of these bytes
		if n, ok := ascii.Number(text, math.MaxInt); ok {
			if before, twice := told[n]; twice {
				t.Errorf("%d is told by %q and %q", n, before, text)
			}
			told[n] = text
		}
		for _, c := range "0123456789-+ a" {
			if len(text) < 4 {
				tell(text + string(c))
			}
		}
	}
	tell("")
	if len(told) != 10000 {
		t.Errorf("%d numbers were told, not 10000", len(told))
	}
}

// W6

// place is where a text that is not empty lies.
func place(s string) *byte { return unsafe.StringData(s) }

func TestAnswersAreNew(t *testing.T) {
	for _, s := range []string{"abc", "ABC", " abc", "abc ", "a"} {
		if place(ascii.Lower(s)) == place(s) {
			t.Errorf("Lower(%q) is the same memory", s)
		}
		trimmed := ascii.Trim(s)
		if place(trimmed) == place(s[strings.Index(s, trimmed):]) {
			t.Errorf("Trim(%q) is the same memory", s)
		}
	}
}

// W1: great texts end, and are told right.

func TestGreatTexts(t *testing.T) {
	const n = 1 << 20
	great, blanks := strings.Repeat("Ab", n), strings.Repeat(" \t", n)
	if got := ascii.Lower(great); got != strings.Repeat("ab", n) {
		t.Error("Lower")
	}
	if !ascii.Same(great, strings.Repeat("aB", n)) || ascii.Same(great, great+"a") {
		t.Error("Same")
	}
	if !ascii.Token(great) || ascii.Token(great+" ") || !ascii.Visible(great) || ascii.Visible(great+"\x7f") {
		t.Error("Token, Visible")
	}
	if got := ascii.Trim(blanks + great + blanks); got != great {
		t.Error("Trim")
	}
	if got := ascii.Trim(blanks); got != "" {
		t.Error("Trim of blanks alone")
	}
	digits := strings.Repeat("1", n)
	asked(t, "Number of many digits", -1)(ascii.Number(digits, math.MaxInt))
	asked(t, "Hex of many digits", -1)(ascii.Hex(digits))
}

var (
	tokenForm   = regexp.MustCompile("(?s)^[A-Za-z0-9!#$%&'*+.^_`|~-]+$")
	visibleForm = regexp.MustCompile(`(?s)^[!-~]+$`)
	numberForm  = regexp.MustCompile(`^(0|[1-9][0-9]{0,17})$`)
	hexForm     = regexp.MustCompile(`^[0-9A-Fa-f]{1,4}$`)
)

// number is a second opinion: the number of a text of that form in that base, by numbers without an end; -1, if it is not of that form.
func number(form *regexp.Regexp, s string, base int) int {
	if !form.MatchString(s) {
		return -1
	}
	n, _ := new(big.Int).SetString(s, base)
	return int(n.Int64())
}

// swapped is s with its small letters great, and its great ones small.
func swapped(s string) string {
	b := []byte(s)
	for i, c := range b {
		if 'a' <= c|0x20 && c|0x20 <= 'z' {
			b[i] ^= 0x20
		}
	}
	return string(b)
}

// FuzzTexts holds every call against a second opinion.
func FuzzTexts(f *testing.F) {
	for _, s := range append([]string{"", "GET", " \ta b\t ", "255", "00", "fF", "999999999999999999", "1000000000000000000"}, odd...) {
		f.Add(s, 255)
		f.Add("A "+s+"\t0", math.MaxInt)
	}
	f.Fuzz(func(t *testing.T, s string, most int) {
		if got := ascii.Lower(s); got != lowered(s) {
			t.Errorf("Lower(%q): %q", s, got)
		}
		for _, other := range []string{swapped(s), strings.ToValidUTF8(s, "\ufffd"), strings.ToLower(s), strings.ToUpper(s), s + "a"} {
			if got := ascii.Same(s, other); got != (lowered(s) == lowered(other)) {
				t.Errorf("Same(%q, %q): %t", s, other, got)
			}
		}
		if got, want := ascii.Trim(s), strings.Trim(s, " \t"); got != want {
			t.Errorf("Trim(%q): %q, not %q", s, got, want)
		}
		if got := ascii.Token(s); got != tokenForm.MatchString(s) {
			t.Errorf("Token(%q): %t", s, got)
		}
		if got := ascii.Visible(s); got != visibleForm.MatchString(s) {
			t.Errorf("Visible(%q): %t", s, got)
		}
		want := number(numberForm, s, 10)
		if want > most {
			want = -1
		}
		asked(t, "Number("+strconv.Quote(s)+", "+strconv.Itoa(most)+")", want)(ascii.Number(s, most))
		asked(t, "Hex("+strconv.Quote(s)+")", number(hexForm, s, 16))(ascii.Hex(s))
	})
}
