package field_test

import (
	"fmt"
	"math/rand"
	"regexp"
	"slices"
	"strings"
	"testing"
	"unsafe"

	"hagioscope/api"
	"hagioscope/field"
)

var (
	nameForm = regexp.MustCompile("(?s)^([A-Za-z0-9!#$%&'*+.^_`|~-]+):(.*)$")
	textForm = regexp.MustCompile(`^[^\x00-\x08\x0a-\x1f\x7f]*$`)
	ends     = regexp.MustCompile(`^[ \t]+|[ \t]+$`)
)

// small is s with its great letters of ASCII small, byte by byte.
func small(s string) string {
	b := []byte(s)
	for i := range b {
		if strings.IndexByte("ABCDEFGHIJKLMNOPQRSTUVWXYZ", b[i]) >= 0 {
			b[i] |= 0x20
		}
	}
	return string(b)
}

// lineOpinion is a second opinion on lines.
func lineOpinion(s string) (api.Field, api.Errno) {
	at := strings.IndexByte(s, ':')
	if at < 0 || !nameForm.MatchString(s[:at+1]) {
		return api.Field{}, api.ErrName
	}
	text := s[at+1:]
	if !textForm.MatchString(text) {
		return api.Field{}, api.ErrForm
	}
	return api.Field{Name: small(s[:at]), Text: ends.ReplaceAllString(text, "")}, api.OK
}

// printOpinion is a second opinion on what is printed, which looks at both parts.
func printOpinion(f api.Field) (string, bool) {
	if !nameForm.MatchString(f.Name+":") || strings.Contains(f.Name, ":") || small(f.Name) != f.Name {
		return "", false
	}
	if !textForm.MatchString(f.Text) || ends.MatchString(f.Text) {
		return "", false
	}
	return strings.Join([]string{f.Name, f.Text}, ": "), true
}

// findOpinion is a second opinion on what is found, which goes over the list from behind.
func findOpinion(l []api.Field, name string) (string, int) {
	text, count := "", 0
	for _, f := range slices.Backward(l) {
		if f.Name == small(name) {
			text = f.Text
			count++
		}
	}
	return text, count
}

// brief is f as a failure tells it.
func brief(f api.Field) string { return fmt.Sprintf("{%.60q %.60q}", f.Name, f.Text) }

// parses fails if s isn't told as it should be; or, if it is a field, that can't be printed, and parsed as it was.
func parses(t *testing.T, s string, want api.Field, fault api.Errno) {
	t.Helper()
	f, e := field.Parse(s)
	if f != want || e != fault {
		t.Errorf("Parse(%.60q): %s, %d, not %s, %d", s, brief(f), e, brief(want), fault)
	}
	if fault == api.OK {
		prints(t, f, want.Name+": "+want.Text, true)
	}
}

// refused fails if s is told as a field, or not with that error.
func refused(t *testing.T, s string, fault api.Errno) {
	t.Helper()
	parses(t, s, api.Field{}, fault)
}

// prints fails if f isn't printed so; or, if it is, isn't parsed as it was.
func prints(t *testing.T, f api.Field, want string, is bool) {
	t.Helper()
	s, ok := field.Print(f)
	if s != want || ok != is {
		t.Errorf("Print(%s): %.60q %t, not %.60q %t", brief(f), s, ok, want, is)
	}
	if !is {
		return
	}
	if told, e := field.Parse(s); told != f || e != api.OK {
		t.Errorf("%.60q: printed, and parsed as %s, %d", s, brief(told), e)
	}
}

// finds fails if what is found isn't that, or the list has changed.
func finds(t *testing.T, l []api.Field, name, want string, many int) {
	t.Helper()
	was := slices.Clone(l)
	if text, n := field.Find(l, name); text != want || n != many {
		t.Errorf("Find(%.200q, %.60q): %.60q %d, not %.60q %d", l, name, text, n, want, many)
	}
	if !slices.Equal(l, was) {
		t.Errorf("Find(%.200q, %.60q) has changed the list to %.200q", was, name, l)
	}
}

// held holds every call against the second opinions: s as a line, and its parts, or itself, as those of a field.
func held(t *testing.T, s string) {
	t.Helper()
	want, fault := lineOpinion(s)
	parses(t, s, want, fault)
	name, text, _ := strings.Cut(s, ":")
	l := []api.Field{
		{Name: name, Text: text},
		{Name: small(name), Text: text},
		{Name: small(name), Text: strings.Trim(text, " \t")},
		{Name: s, Text: "a"},
		{Name: "a", Text: s},
		{Name: s, Text: s},
	}
	for _, f := range l {
		want, is := printOpinion(f)
		prints(t, f, want, is)
	}
	for _, asked := range []string{name, small(name), s, text, "a", "A", ""} {
		text, many := findOpinion(l, asked)
		finds(t, l, asked, text, many)
	}
}

// P12.1

func TestLinesRead(t *testing.T) {
	for s, want := range map[string]api.Field{
		"Host:  a":                         {Name: "host", Text: "a"},
		"host:a":                           {Name: "host", Text: "a"},
		"HOST:A":                           {Name: "host", Text: "A"},
		"x-Y_z.0:\t \t":                    {Name: "x-y_z.0"},
		"a:":                               {Name: "a"},
		"a::":                              {Name: "a", Text: ":"},
		"a: b: c":                          {Name: "a", Text: "b: c"},
		"a:b:c":                            {Name: "a", Text: "b:c"},
		"a: :b":                            {Name: "a", Text: ":b"},
		"a: b \t c ":                       {Name: "a", Text: "b \t c"},
		"a:\tB\t":                          {Name: "a", Text: "B"},
		"0: \"\\ \"":                       {Name: "0", Text: "\"\\ \""},
		"a: \u00e4\u00a0":                  {Name: "a", Text: "\u00e4\u00a0"},
		"a:\u2003b\u0085":                  {Name: "a", Text: "\u2003b\u0085"},
		"a: \x80\xff\xc0":                  {Name: "a", Text: "\x80\xff\xc0"},
		"!#$%&'*+-.^_`|~: !\"#(),/;<=>?@{": {Name: "!#$%&'*+-.^_`|~", Text: "!\"#(),/;<=>?@{"},
	} {
		parses(t, s, want, api.OK)
	}
}

func TestNames(t *testing.T) {
	for _, s := range []string{
		"", "a", "Host", "host a", ":", "::", ": a", ":a", ":a:b", " : a", "\t:a",
		" a: b", "a : b", "a\t: b", "\ta: b", "a b: c", "a\r\n: b", "\na: b", "a\x00: b", "a\x7f: b",
		"\"a\": b", "(a): b", "a,b: c", "a/b: c", "a;b: c", "a=b: c", "a@b: c", "[a]: b", "a\\b: c", "{a}: b", "<a>: b", "a?: b",
		"\u00e4: b", "a\u00a0: b", "\u212a: b", "\u0141: b", "\uff21: b", "\xff: b", "a\xc1\x81: b", "\u017f: a", "a\uff1a b",
	} {
		refused(t, s, api.ErrName)
	}
}

func TestTexts(t *testing.T) {
	for _, s := range []string{
		"a:\x00", "a: \x00", "a: b\x00c", "a: b\r", "a: b\n", "a: b\r\n", "a:\r\n b", "a:\n", "a:\r", "a: \x1f", "a: \x08", "a: \x0a", "a: \x0b", "a: \x0c",
		"a:\x7f", "a: \x7f ", "a: b\x7f", "a: \x1b[0m", "a: \xff\x00", "a: \xe2\x82\x0d", "a: \xf0\x9f\x7f",
	} {
		refused(t, s, api.ErrForm)
	}
}

// TestFirstError has names and texts that are both wrong: the name's error is told.
func TestFirstError(t *testing.T) {
	names := map[string]bool{"a": true, "X-y": true, "": false, " ": false, "a ": false, "\x00": false, "\x7f": false, "\xff": false}
	texts := map[string]bool{"": true, " b ": true, ":": true, "\x80": true, "\x00": false, "b\r\n": false, "b:\x7f": false}
	for name, token := range names {
		for text, may := range texts {
			s := name + ":" + text
			switch {
			case !token:
				refused(t, s, api.ErrName)
			case !may:
				refused(t, s, api.ErrForm)
			default:
				parses(t, s, api.Field{Name: small(name), Text: strings.Trim(text, " ")}, api.OK)
			}
			if !strings.Contains(text, ":") {
				refused(t, name+text, api.ErrName)
			}
		}
	}
}

func TestEveryByte(t *testing.T) {
	for i := range 256 {
		one := string([]byte{byte(i)})
		for _, part := range []string{one, one + "a", "a" + one, "a" + one + "a", one + one, " " + one + " ", "\xc3" + one, "\xe2\x82" + one} {
			held(t, part+": b")
			held(t, "b:"+part)
			held(t, "b: "+part+"\t")
			held(t, part)
		}
		for c := range 256 {
			pair := one + string([]byte{byte(c)})
			want, fault := lineOpinion("a:" + pair)
			parses(t, "a:"+pair, want, fault)
			want, fault = lineOpinion(pair + ":")
			parses(t, pair+":", want, fault)
		}
	}
}

func TestLengths(t *testing.T) {
	for n := range 600 {
		name, text, blanks := strings.Repeat("aB", n)+"c", strings.Repeat("b ", n)+"d", strings.Repeat(" \t", n)
		want := api.Field{Name: small(name), Text: text}
		parses(t, name+":"+text, want, api.OK)
		parses(t, name+":"+blanks+text+blanks, want, api.OK)
		parses(t, name+":"+blanks, api.Field{Name: want.Name}, api.OK)
		refused(t, name+" :"+text, api.ErrName)
		refused(t, name+":"+text+"\x00"+text, api.ErrForm)
		refused(t, blanks+text, api.ErrName)
	}
}

// P12.2

func TestPrinted(t *testing.T) {
	for want, f := range map[string]api.Field{
		"host: a":             {Name: "host", Text: "a"},
		"a: ":                 {Name: "a"},
		"a: :":                {Name: "a", Text: ":"},
		"a: b \t: C":          {Name: "a", Text: "b \t: C"},
		"0-!: \u00e4\xff":     {Name: "0-!", Text: "\u00e4\xff"},
		"a: \u00a0":           {Name: "a", Text: "\u00a0"},
		"a: host: a":          {Name: "a", Text: "host: a"},
		"!#$%&'*+-.^_`|~: \\": {Name: "!#$%&'*+-.^_`|~", Text: "\\"},
	} {
		prints(t, f, want, true)
	}
}

func TestPrintedNot(t *testing.T) {
	for _, name := range []string{"", " ", "A", "aB", "Host", "a ", " a", "a b", ":", "a:", ":a", "a:b", "a: b", "a\t", "a\r\n", "a\x00", "a\x7f", "a@b", "\u00e4", "\u00c4", "\xff"} {
		for _, text := range []string{"", "a", ":", "a: b", " ", "\n"} {
			prints(t, api.Field{Name: name, Text: text}, "", false)
		}
	}
	for _, text := range []string{" ", "\t", " a", "a ", "\ta", "a\t", " a ", "a \t", "\n", "a\n", "a\r\n", "\r\na", "a\r\n b", "\x00", "a\x00b", "\x1f", "\x7f", "a\x7f", "\x0b"} {
		prints(t, api.Field{Name: "a", Text: text}, "", false)
	}
}

// P12.3

func TestFound(t *testing.T) {
	l := []api.Field{{Name: "a", Text: "1"}, {Name: "host", Text: ""}, {Name: "a", Text: "2"}, {Name: "host", Text: "3"}, {Name: "b-c", Text: "4"}, {Name: "a", Text: "1"}}
	for name, want := range map[string]struct {
		text string
		many int
	}{
		"a": {"1", 3}, "A": {"1", 3}, "host": {"", 2}, "Host": {"", 2}, "HOST": {"", 2}, "hOsT": {"", 2}, "b-c": {"4", 1}, "B-C": {"4", 1},
		"": {}, " ": {}, "a ": {}, " a": {}, "a:": {}, "aa": {}, "b": {}, "c": {}, "hos": {}, "hosts": {}, "b_c": {}, "b-c-": {}, "1": {}, "\u00e4": {}, "ho\u017ft": {}, "\x01": {},
	} {
		finds(t, l, name, want.text, want.many)
		finds(t, nil, name, "", 0)
		finds(t, []api.Field{}, name, "", 0)
		finds(t, l[:0], name, "", 0)
	}
	finds(t, l[1:], "a", "2", 2)
	finds(t, l[3:], "A", "1", 1)
	finds(t, l[3:4], "Host", "3", 1)
	finds(t, l[:1], "host", "", 0)
}

// TestFoundOdd has names in the list that no line tells: just what is asked for is made Lower, and they are found as they are.
func TestFoundOdd(t *testing.T) {
	l := []api.Field{{Name: "A", Text: "1"}, {Name: "", Text: "2"}, {Name: "a b", Text: " 3\n"}, {Name: "\u00c4", Text: "4"}, {Name: "\xff", Text: "5"}, {Name: "\u00e4", Text: "6"}, {}}
	finds(t, l, "A", "", 0)
	finds(t, l, "a", "", 0)
	finds(t, l, "", "2", 2)
	finds(t, l, "A B", " 3\n", 1)
	finds(t, l, "\u00c4", "4", 1)
	finds(t, l, "\u00e4", "6", 1)
	finds(t, l, "\xff", "5", 1)
	finds(t, l, "\ufffd", "", 0)
	finds(t, l, "\u00df", "", 0)
}

// TestFoundMany has each number of fields of a name, at all places of a short list.
func TestFoundMany(t *testing.T) {
	for size := range 9 {
		for set := range 1 << size {
			l := make([]api.Field, size)
			want, many := "", 0
			for i := range l {
				l[i] = api.Field{Name: "other", Text: "no"}
				if set>>i&1 == 1 {
					l[i] = api.Field{Name: "x", Text: string(rune('0' + i))}
					if many == 0 {
						want = l[i].Text
					}
					many++
				}
			}
			finds(t, l, "X", want, many)
		}
	}
}

// P12.4

// TestThereAndBack prints fields made of their parts, and parses them, and the other way round.
func TestThereAndBack(t *testing.T) {
	source := rand.New(rand.NewSource(12))
	signs := "abcxyz019!#$%&'*+-.^_`|~"
	for range 4000 {
		name := make([]byte, 1+source.Intn(40))
		for i := range name {
			name[i] = signs[source.Intn(len(signs))]
		}
		text := make([]byte, source.Intn(80))
		for i := range text {
			text[i] = byte(' ' + source.Intn(224))
			if text[i] == 0x7f {
				text[i] = '\t'
			}
		}
		f := api.Field{Name: string(name), Text: strings.Trim(string(text), " \t")}
		prints(t, f, f.Name+": "+f.Text, true)
		parses(t, strings.ToUpper(f.Name)+":"+string(text), f, api.OK)
		held(t, f.Name+":"+string(text))
	}
}

// TestLikely holds rows of likely pieces against the second opinions.
func TestLikely(t *testing.T) {
	source := rand.New(rand.NewSource(12))
	pieces := []string{":", ":", ": ", "a", "A", "Host", "host", " ", "\t", "x-y", "\r\n", "\x00", "\x7f", "\xff", "\u00e4", "0", "\"", ",", "b c"}
	for range 20000 {
		var b strings.Builder
		for range source.Intn(8) {
			b.WriteString(pieces[source.Intn(len(pieces))])
		}
		held(t, b.String())
	}
}

// TestTurned turns a byte of lines, at each place, into each other, drops it, doubles it, and cuts the lines there.
func TestTurned(t *testing.T) {
	for _, s := range []string{"Host: a.b:1", "x-Y:\tb \xc3\xa4 c ", "a::"} {
		for i := range len(s) {
			b := []byte(s)
			for c := range 256 {
				b[i] = byte(c)
				held(t, string(b))
			}
			held(t, s[:i])
			held(t, s[i:])
			held(t, s[:i]+s[i+1:])
			held(t, s[:i]+s[i:i+1]+s[i:])
		}
	}
}

// W6

// within says whether part lies in the memory of s.
func within(part, s string) bool {
	if part == "" {
		return false
	}
	at, from := uintptr(unsafe.Pointer(unsafe.StringData(part))), uintptr(unsafe.Pointer(unsafe.StringData(s)))
	return at >= from && at < from+uintptr(len(s))
}

func TestMemory(t *testing.T) {
	for _, s := range []string{"a:b", "host:a.b", "host: a.b \t", "Host: a: b", strings.Repeat("a", 5000) + ":" + strings.Repeat("b", 5000)} {
		f, _ := field.Parse(s)
		if within(f.Name, s) || within(f.Text, s) || within(f.Name, f.Text) {
			t.Errorf("Parse(%.60q) shares memory", s)
		}
		p, _ := field.Print(f)
		if within(f.Name, p) || within(f.Text, p) {
			t.Errorf("Print of %.60q shares memory with it", s)
		}
		long := f.Text + " and more"
		l := []api.Field{{Name: "b", Text: "b"}, {Name: f.Name, Text: long}}
		if found, _ := field.Find(l, f.Name); found != long || within(found, long) {
			t.Errorf("Find of the name of %.60q shares memory with the list", s)
		}
	}
}

// W1: great texts and lists end, and are told right.

func TestGreatTexts(t *testing.T) {
	const n = 1 << 21
	colons, letters, blanks := strings.Repeat(":", n), strings.Repeat("aB", n/2), strings.Repeat(" \t", n/2)
	refused(t, letters, api.ErrName)
	refused(t, blanks, api.ErrName)
	refused(t, colons, api.ErrName)
	refused(t, blanks+":a", api.ErrName)
	refused(t, "a:"+letters+"\x00", api.ErrForm)
	refused(t, "a:"+blanks+"\n", api.ErrForm)
	parses(t, letters+":"+letters, api.Field{Name: small(letters), Text: letters}, api.OK)
	parses(t, "a"+colons, api.Field{Name: "a", Text: colons[1:]}, api.OK)
	parses(t, "A:"+blanks+"b"+blanks, api.Field{Name: "a", Text: "b"}, api.OK)
	parses(t, "A:"+blanks, api.Field{Name: "a"}, api.OK)
	prints(t, api.Field{Name: letters, Text: letters}, "", false)
	prints(t, api.Field{Name: colons, Text: colons}, "", false)
	l := make([]api.Field, 1<<18)
	finds(t, l, "", "", len(l))
	finds(t, l, letters, "", 0)
	l[len(l)-1] = api.Field{Name: small(letters), Text: "x"}
	finds(t, l, letters, "x", 1)
}

func FuzzFields(f *testing.F) {
	for _, s := range []string{"Host:  a", "a:", "X-y:\tb \xc3\xa4 c ", "a::b", " a: b", "a: b\r\n", ": a", "a"} {
		f.Add(s)
	}
	f.Fuzz(held)
}
