package shake_test

import (
	"bytes"
	"math/rand"
	"strings"
	"testing"

	"hagioscope/api"
	"hagioscope/shake"
)

const most = 1 << 14 // bytes of a body

// known is what is known of some bytes.
type known struct {
	whole bool
	body  string
	want  int
	fault api.Errno
}

// opinion is a second opinion on b: it asks which numbers could still come.
func opinion(b string) known {
	if b != "" && b[0] != 1 {
		return known{fault: api.ErrType}
	}
	if len(b) < 4 {
		if least(b) > most {
			return known{fault: api.ErrLength}
		}
		return known{want: 4 - len(b)}
	}
	n := least(b)
	if n > most {
		return known{fault: api.ErrLength}
	}
	if len(b)-4 < n {
		return known{want: n - (len(b) - 4)}
	}
	return known{whole: true, body: b[4 : 4+n]}
}

// least is the least number that may stand behind the first byte of b, whatever comes.
func least(b string) int {
	b = b[:min(4, len(b))] + "\x00\x00\x00\x00"
	return int(b[1])*65536 + int(b[2])*256 + int(b[3])
}

// msg is a message, its number made from its body.
func msg(body string) string {
	n := len(body)
	return string([]byte{1, byte(n >> 16), byte(n >> 8), byte(n)}) + body
}

// mixed is n bytes without an order, the same ones in each run.
func mixed(n int) string {
	out := make([]byte, n)
	rand.New(rand.NewSource(8)).Read(out)
	return string(out)
}

// spoil writes over b and its spare room.
func spoil(b []byte) {
	b = b[:cap(b)]
	for i := range b {
		b[i] = ^b[i]
	}
}

// took is a message of which b came.
func took(b string) *shake.Message {
	m := shake.New()
	for i := range len(b) {
		m.Take(b[i])
	}
	return m
}

// takes fails if Take of c does not answer what it should.
func takes(t *testing.T, m *shake.Message, c byte, whole bool, fault api.Errno) {
	t.Helper()
	if is, e := m.Take(c); is != whole || e != fault {
		t.Fatalf("Take(%x): %t %d, not %t %d", c, is, e, whole, fault)
	}
}

// tells holds Body and Want against what they should be; neither question changes anything.
func tells(t *testing.T, what string, m *shake.Message, body string, want int) {
	t.Helper()
	for range 2 {
		if got := m.Body(); string(got) != body {
			t.Fatalf("%s: Body is %d bytes, %.20x, not %.20x", what, len(got), got, body)
		}
		if got := m.Want(); got != want {
			t.Fatalf("%s: Want is %d, not %d", what, got, want)
		}
	}
}

// held holds a message against the second opinion, at each byte of b.
func held(t *testing.T, b string) {
	t.Helper()
	m := shake.New()
	for i := range len(b) {
		k := opinion(b[:i+1])
		takes(t, m, b[i], k.whole, k.fault)
		tells(t, "behind a byte", m, k.body, k.want)
	}
}

// every asks Take of each byte behind what came: from low to high it may be, else it answers the error.
func every(t *testing.T, ahead string, low, high int, fault api.Errno) {
	t.Helper()
	for c := range 256 {
		m := took(ahead)
		tells(t, "ahead of the byte", m, "", 4-len(ahead))
		if c < low || c > high {
			takes(t, m, byte(c), false, fault)
			tells(t, "behind a wrong byte", m, "", 0)
			continue
		}
		left := opinion(ahead + string([]byte{byte(c)})).want
		takes(t, m, byte(c), left == 0, api.OK)
		tells(t, "behind a byte", m, "", left)
	}
}

// P8.1

// TestEachByte tries all bytes at each place ahead of a body.
func TestEachByte(t *testing.T) {
	every(t, "", 1, 1, api.ErrType)
	every(t, "\x01", 0, 0, api.ErrLength)
	every(t, "\x01\x00", 0, 0x40, api.ErrLength)
	for high := range 0x40 {
		every(t, "\x01\x00"+string([]byte{byte(high)}), 0, 255, api.ErrLength)
	}
	every(t, "\x01\x00\x40", 0, 0, api.ErrLength)
}

// TestEachNumber takes all numbers whose highest byte is 0, and some of those where it is not.
func TestEachNumber(t *testing.T) {
	for n := range 1 << 16 {
		m, middle, low := took("\x01\x00"), api.OK, api.OK
		if n>>8 > most>>8 {
			middle = api.ErrLength
		}
		if n > most {
			low = api.ErrLength
		}
		takes(t, m, byte(n>>8), false, middle)
		takes(t, m, byte(n), n == 0, low)
		if low != api.OK {
			n = 0
		}
		tells(t, "behind the number", m, "", n)
	}
	for high := 1; high < 256; high++ {
		for _, rest := range []string{"\x00\x00", "\x00\x01", "\x40\x00", "\xff\xff"} {
			m := took("\x01")
			takes(t, m, byte(high), false, api.ErrLength)
			takes(t, m, rest[0], false, api.ErrLength)
			takes(t, m, rest[1], false, api.ErrLength)
		}
	}
}

// TestNumberOrder takes numbers whose bytes differ, so that none stands for another.
func TestNumberOrder(t *testing.T) {
	for head, n := range map[string]int{"\x00\x00\x01": 1, "\x00\x01\x00": 256, "\x00\x12\x34": 0x1234, "\x00\x34\x12": 0x3412, "\x00\x3f\xff": most - 1, "\x00\x40\x00": most} {
		tells(t, "behind the number", took("\x01"+head), "", n)
	}
}

// TestBodies takes bodies about the ends, of bytes that may be a message's beginning and of those that may not.
func TestBodies(t *testing.T) {
	for _, n := range []int{1, 2, 3, 4, 5, 255, 256, 257, most - 1, most} {
		for _, c := range []byte{0, 1, 2, 0x16, 0xff} {
			body := strings.Repeat(string([]byte{c}), n)
			m := took(msg(body)[:4])
			for i := range n {
				if i < 9 || i > n-9 {
					tells(t, "ahead of a byte", m, "", n-i)
				}
				takes(t, m, c, i == n-1, api.OK)
			}
			tells(t, "behind the last byte", m, body, 0)
		}
	}
}

func TestEmptyBody(t *testing.T) {
	m := took("\x01\x00\x00")
	tells(t, "ahead of the last byte", m, "", 1)
	takes(t, m, 0, true, api.OK)
	tells(t, "behind it", m, "", 0)
	takes(t, m, 7, true, api.OK)
	tells(t, "behind more", m, "", 0)
}

// TestWholeStays brings all bytes, and another message, behind whole ones.
func TestWholeStays(t *testing.T) {
	for _, body := range []string{"", "a", "ab", mixed(300), mixed(most)} {
		m := took(msg(body))
		for c := range 256 {
			takes(t, m, byte(c), true, api.OK)
		}
		for _, c := range []byte(msg("xyz")) {
			takes(t, m, c, true, api.OK)
		}
		tells(t, "behind more bytes", m, body, 0)
	}
}

// wrong are bytes that are known to be no message's at the last one, and by which error.
func wrong() map[string]api.Errno {
	return map[string]api.Errno{
		"\x00": api.ErrType, "\x02": api.ErrType, "\x16": api.ErrType, "\x81": api.ErrType, "\xff": api.ErrType,
		"\x01\x01": api.ErrLength, "\x01\x40": api.ErrLength, "\x01\xff": api.ErrLength,
		"\x01\x00\x41": api.ErrLength, "\x01\x00\x80": api.ErrLength, "\x01\x00\xff": api.ErrLength,
		"\x01\x00\x40\x01": api.ErrLength, "\x01\x00\x40\xff": api.ErrLength,
	}
}

// TestErrorStays knows each error at the last byte, not ahead of it, and brings all bytes, and whole messages, behind it.
func TestErrorStays(t *testing.T) {
	for bad, fault := range wrong() {
		m := shake.New()
		for i := range len(bad) - 1 {
			takes(t, m, bad[i], false, api.OK)
		}
		takes(t, m, bad[len(bad)-1], false, fault)
		tells(t, "behind the error", m, "", 0)
		for c := range 256 {
			takes(t, m, byte(c), false, fault)
		}
		for _, c := range []byte(msg("") + msg("xyz")) {
			takes(t, m, c, false, fault)
			tells(t, "behind more bytes", m, "", 0)
		}
	}
}

func TestApart(t *testing.T) {
	one, other := took("\x01\x00\x00\x02a"), took("\x02")
	takes(t, other, 1, false, api.ErrType)
	third := shake.New()
	takes(t, one, 'b', true, api.OK)
	takes(t, third, 'b', false, api.ErrType)
	tells(t, "the one", one, "ab", 0)
	tells(t, "the other", other, "", 0)
	tells(t, "a new one", shake.New(), "", 4)
}

// P8.2

func TestNew(t *testing.T) { tells(t, "new", shake.New(), "", 4) }

// TestBodyAndWant asks behind each byte of some messages.
func TestBodyAndWant(t *testing.T) {
	for i, want := range []int{4, 3, 2, 1, 1, 0, 0, 0} {
		body := ""
		if want == 0 {
			body = "a"
		}
		tells(t, "in a message", took((msg("a") + "xyz")[:i]), body, want)
	}
	for _, body := range []string{"", "a", "\x01\x00\x00\x01\x01", mixed(300)} {
		held(t, msg(body)+"\x02\x01\x00")
	}
}

// P8.3

func TestWrapWritten(t *testing.T) {
	for x, want := range map[string]string{
		"":                            "\x01\x00\x00\x00",
		"a":                           "\x01\x00\x00\x01\x61",
		"ab":                          "\x01\x00\x00\x02ab",
		"\x01\x00\x00\x00":            "\x01\x00\x00\x04\x01\x00\x00\x00",
		strings.Repeat("a", 255):      "\x01\x00\x00\xff" + strings.Repeat("a", 255),
		strings.Repeat("a", 256):      "\x01\x00\x01\x00" + strings.Repeat("a", 256),
		strings.Repeat("a", 0x1234):   "\x01\x00\x12\x34" + strings.Repeat("a", 0x1234),
		strings.Repeat("a", most-1):   "\x01\x00\x3f\xff" + strings.Repeat("a", most-1),
		strings.Repeat("a", most):     "\x01\x00\x40\x00" + strings.Repeat("a", most),
		strings.Repeat("\xff", 0x101): "\x01\x00\x01\x01" + strings.Repeat("\xff", 0x101),
	} {
		if got, ok := shake.Wrap([]byte(x)); string(got) != want || !ok {
			t.Errorf("Wrap of %d bytes: %d bytes, %.20x, %t", len(x), len(got), got, ok)
		}
	}
	if got, ok := shake.Wrap(nil); string(got) != "\x01\x00\x00\x00" || !ok {
		t.Errorf("Wrap(nil): %x %t", got, ok)
	}
}

func TestWrapTooLong(t *testing.T) {
	for _, n := range []int{most + 1, most + 2, 1 << 15, 1<<16 - 1, 1 << 16, 1<<24 - 1, 1 << 24, 1<<24 + 1} {
		if got, ok := shake.Wrap(make([]byte, n)); len(got) != 0 || ok {
			t.Errorf("Wrap of %d bytes: %d bytes, %t", n, len(got), ok)
		}
	}
}

// P8.4

func TestBodyMemory(t *testing.T) {
	for _, body := range []string{"a", "abc", "abcdefghi", mixed(300)} {
		m := took(msg(body))
		one, two := m.Body(), m.Body()
		spoil(two)
		if string(one) != body {
			t.Errorf("one answer became %.20x by another", one)
		}
		for c := range 9 {
			m.Take(byte(c))
		}
		spoil(one)
		tells(t, "behind what was done to its answers", m, body, 0)
	}
}

func TestWrapMemory(t *testing.T) {
	for n := range 8 {
		whole := []byte("abcdefgh")
		x, want := whole[:n], msg("abcdefgh"[:n])
		one, _ := shake.Wrap(x)
		two, _ := shake.Wrap(x)
		spoil(two)
		if string(whole) != "abcdefgh" {
			t.Errorf("what was handed in became %q", whole)
		}
		spoil(whole)
		if string(one) != want {
			t.Errorf("the answer became %x", one)
		}
	}
}

// P8.5

func TestWrappedAndTaken(t *testing.T) {
	for _, n := range []int{0, 1, 2, 3, 4, 100, 255, 256, 257, 1000, most - 1, most} {
		body := mixed(n)
		w, ok := shake.Wrap([]byte(body))
		if !ok {
			t.Fatalf("%d bytes are not wrapped", n)
		}
		m := shake.New()
		for i, c := range w {
			takes(t, m, c, i == len(w)-1, api.OK)
		}
		tells(t, "all taken", m, body, 0)
	}
}

// TestLikely holds rows of likely bytes against the second opinion.
func TestLikely(t *testing.T) {
	source := rand.New(rand.NewSource(8))
	for range 20000 {
		var b []byte
		for range source.Intn(20) {
			b = append(b, "\x01\x01\x00\x00\x00\x02\x03\x05\x40\x41\x16\xff"[source.Intn(12)])
		}
		held(t, string(b))
		held(t, "\x01\x00\x00"+string(b))
	}
}

func FuzzMessages(f *testing.F) {
	f.Add([]byte(msg("a")))
	f.Add([]byte(msg("ab") + "c"))
	f.Add([]byte("\x01\x00\x40\x00abc"))
	f.Add([]byte("\x01\x00\x40\x01"))
	f.Add([]byte("\x02"))
	f.Fuzz(func(t *testing.T, b []byte) {
		held(t, string(b))
		w, ok := shake.Wrap(b)
		if ok != (len(b) <= most) || ok && !bytes.Equal(w, []byte(msg(string(b)))) {
			t.Fatalf("Wrap of %x: %x %t", b, w, ok)
		}
		if ok {
			held(t, string(w))
		}
	})
}
