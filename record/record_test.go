package record_test

import (
	"bytes"
	"encoding/binary"
	"math"
	"math/rand"
	"slices"
	"strings"
	"testing"

	"hagioscope/api"
	"hagioscope/record"
)

const most = 1 << 14 // bytes of a payload

// known is what is known of some bytes.
type known struct {
	payload []byte
	pays    []bool // of each byte, up to where an error is known: is it one of a payload?
	count   int
	open    bool
	place   int // of the byte at which an error is known; -1: at none
	fault   api.Errno
}

// fails is what is known where the byte at place is wrong.
func (k known) fails(place int, fault api.Errno) known {
	k.pays = append(k.pays, make([]bool, place-len(k.pays))...)
	k.open, k.place, k.fault = false, place, fault
	return k
}

// opinion is a second opinion on b: it looks at whole heads.
func opinion(b []byte) known {
	k := known{place: -1}
	for at := 0; at < len(b); {
		head := b[at:min(at+5, len(b))]
		if head[0] != 0x16 {
			return k.fails(at, api.ErrType)
		}
		for i, top := range []byte{3, 4} {
			if len(head) > 1+i && (head[1+i] > top || i == 0 && head[1] < 3) {
				return k.fails(at+1+i, api.ErrVersion)
			}
		}
		if len(head) > 3 && head[3] > 0x40 {
			return k.fails(at+3, api.ErrLength)
		}
		if len(head) < 5 {
			k.pays, k.open = append(k.pays, make([]bool, len(head))...), true
			return k
		}
		n := int(binary.BigEndian.Uint16(head[3:]))
		if n == 0 || n > most {
			return k.fails(at+4, api.ErrLength)
		}
		body := b[at+5 : min(at+5+n, len(b))]
		k.pays = append(k.pays, make([]bool, 5)...)
		k.pays = append(k.pays, slices.Repeat([]bool{true}, len(body))...)
		k.payload = append(k.payload, body...)
		if len(body) < n {
			k.open = true
			return k
		}
		k.count++
		at += 5 + n
	}
	return k
}

// rec is a record, its number made from its payload.
func rec(minor byte, payload string) string {
	return string([]byte{0x16, 3, minor, byte(len(payload) >> 8), byte(len(payload))}) + payload
}

// mixed is n bytes without an order, the same ones in each run.
func mixed(n int) []byte {
	out := make([]byte, n)
	rand.New(rand.NewSource(7)).Read(out)
	return out
}

// spoil writes over b and its spare room.
func spoil(b []byte) {
	b = b[:cap(b)]
	for i := range b {
		b[i] = ^b[i]
	}
}

// took is a deframer to which b came.
func took(b string) *record.Deframer {
	d := record.New()
	for i := range len(b) {
		d.Take(b[i])
	}
	return d
}

// takes fails if Take of c does not answer what it should.
func takes(t *testing.T, d *record.Deframer, c byte, pays bool, fault api.Errno) {
	t.Helper()
	if is, e := d.Take(c); is != pays || e != fault {
		t.Fatalf("Take(%x): %t %d, not %t %d", c, is, e, pays, fault)
	}
}

// tells holds Open and Count against what they should be; neither question changes anything.
func tells(t *testing.T, what string, d *record.Deframer, open bool, count int) {
	t.Helper()
	for range 2 {
		if got := d.Open(); got != open {
			t.Fatalf("%s: Open is %t", what, got)
		}
		if got := d.Count(); got != count {
			t.Fatalf("%s: Count is %d, not %d", what, got, count)
		}
	}
}

// all fails if All of b does not answer what it should.
func all(t *testing.T, b, payload string, place int, fault api.Errno) {
	t.Helper()
	if x, at, e := record.All([]byte(b)); string(x) != payload || at != place || e != fault {
		t.Fatalf("All of %d bytes, %.20x: %d bytes, %.20x, %d %d; not %.20x, %d %d", len(b), b, len(x), x, at, e, payload, place, fault)
	}
}

// held holds All, and each Take, against the second opinion.
func held(t *testing.T, b []byte) {
	t.Helper()
	k := opinion(b)
	all(t, string(b), string(k.payload), k.place, k.fault)
	d := record.New()
	for i, c := range b {
		is, e := d.Take(c)
		if k.fault != api.OK && i >= k.place {
			if is || e != k.fault || d.Open() {
				t.Fatalf("%x: at %d: %t %d, Open %t; not %d", b, i, is, e, d.Open(), k.fault)
			}
		} else if is != k.pays[i] || e != api.OK {
			t.Fatalf("%x: at %d: %t %d, not %t", b, i, is, e, k.pays[i])
		}
	}
	tells(t, "at the end", d, k.open, k.count)
}

// every asks Take of each byte behind what came, as a second opinion would have it.
func every(t *testing.T, ahead string, count int, fault func(c int) api.Errno) {
	t.Helper()
	for c := range 256 {
		d := took(ahead)
		tells(t, "ahead of the byte", d, d.Open(), count)
		e := fault(c)
		takes(t, d, byte(c), false, e)
		tells(t, "behind the byte", d, e == api.OK, count)
	}
}

// only answers the error where the byte is not from low to high.
func only(low, high int, e api.Errno) func(int) api.Errno {
	return func(c int) api.Errno {
		if c >= low && c <= high {
			return api.OK
		}
		return e
	}
}

// P7.1

// TestEachByte tries all bytes at each place of a head, of the first record and of one behind others.
func TestEachByte(t *testing.T) {
	for count, ahead := range []string{"", rec(0, "a"), rec(0, "a") + rec(4, "\x16\x03\x01")} {
		every(t, ahead, count, only(0x16, 0x16, api.ErrType))
		every(t, ahead+"\x16", count, only(3, 3, api.ErrVersion))
		every(t, ahead+"\x16\x03", count, only(0, 4, api.ErrVersion))
		for minor := range 5 {
			head := ahead + "\x16\x03" + string([]byte{byte(minor)})
			every(t, head, count, only(0, 0x40, api.ErrLength))
			every(t, head+"\x00", count, only(1, 255, api.ErrLength))
			every(t, head+"\x01", count, only(0, 255, api.ErrLength))
			every(t, head+"\x3f", count, only(0, 255, api.ErrLength))
			every(t, head+"\x40", count, only(0, 0, api.ErrLength))
		}
	}
}

// TestEachNumber takes heads of all numbers of two bytes.
func TestEachNumber(t *testing.T) {
	for n := range 1 << 16 {
		d, high := took("\x16\x03\x03"), api.OK
		if n>>8 > 0x40 {
			high = api.ErrLength
		}
		takes(t, d, byte(n>>8), false, high)
		low := high
		if n < 1 || n > api.MaxRecord {
			low = api.ErrLength
		}
		takes(t, d, byte(n), false, low)
		tells(t, "behind the number", d, low == api.OK, 0)
	}
}

// TestPayload takes payloads of bytes that may be a head's, and of those that may not.
func TestPayload(t *testing.T) {
	for _, n := range []int{1, 2, 4, 5, 6, 255, 256, 257, 511, 1<<14 - 256, 1<<14 - 1, 1 << 14} {
		for _, c := range []byte{0, 0x16, 3, 0x17, 0xff} {
			d := took("\x16\x03\x01" + string([]byte{byte(n >> 8), byte(n)}))
			for i := range n {
				tells(t, "ahead of a byte", d, true, 0)
				takes(t, d, c, true, api.OK)
				tells(t, "behind a byte", d, i < n-1, b2i(i == n-1))
			}
			takes(t, d, 0x16, false, api.OK)
			tells(t, "at the next record", d, true, 1)
		}
	}
}

// b2i is 1 of true.
func b2i(b bool) int {
	if b {
		return 1
	}
	return 0
}

// wrong are bytes that are known to be none at the last one, and by which error.
func wrong() map[string]api.Errno {
	return map[string]api.Errno{
		"\x17": api.ErrType, "\x00": api.ErrType, "\x15": api.ErrType, "\xff": api.ErrType, "G": api.ErrType,
		"\x16\x02": api.ErrVersion, "\x16\x04": api.ErrVersion, "\x16\x00": api.ErrVersion, "\x16\x16": api.ErrVersion,
		"\x16\x03\x05": api.ErrVersion, "\x16\x03\xff": api.ErrVersion,
		"\x16\x03\x00\x41": api.ErrLength, "\x16\x03\x04\xff": api.ErrLength, "\x16\x03\x01\x80": api.ErrLength,
		"\x16\x03\x00\x00\x00": api.ErrLength, "\x16\x03\x03\x40\x01": api.ErrLength, "\x16\x03\x04\x40\xff": api.ErrLength,
	}
}

// TestErrorStays brings all bytes, and whole records, behind each error.
func TestErrorStays(t *testing.T) {
	for bad, fault := range wrong() {
		for count, ahead := range []string{"", rec(1, "a"), rec(2, "ab") + rec(3, "c")} {
			d := took(ahead + bad)
			tells(t, "behind the error", d, false, count)
			for c := range 256 {
				takes(t, d, byte(c), false, fault)
			}
			for _, c := range []byte(rec(1, "xyz") + rec(1, "z")) {
				takes(t, d, c, false, fault)
				tells(t, "behind more bytes", d, false, count)
			}
		}
	}
}

func TestApart(t *testing.T) {
	one, other := took("\x16\x03"), took("\x17")
	tells(t, "the one", one, true, 0)
	tells(t, "the other", other, false, 0)
	for _, c := range []byte("\x01\x00\x01") {
		takes(t, one, c, false, api.OK)
		takes(t, other, c, false, api.ErrType)
	}
	third := record.New()
	takes(t, one, 'a', true, api.OK)
	takes(t, third, 'a', false, api.ErrType)
	tells(t, "the one", one, false, 1)
}

// P7.2

func TestNew(t *testing.T) { tells(t, "new", record.New(), false, 0) }

// TestCountAndOpen asks behind each byte of some records, and of an error.
func TestCountAndOpen(t *testing.T) {
	d, count := record.New(), 0
	for _, payload := range []string{"a", "bc", "d", strings.Repeat("e", 300)} {
		r := rec(3, payload)
		for i := range len(r) {
			d.Take(r[i])
			last := i == len(r)-1
			tells(t, "in a record", d, !last, count+b2i(last))
		}
		count++
	}
	for range 3 {
		d.Take(0x17)
		tells(t, "behind the error", d, false, count)
	}
}

// TestBrokenOff knows an error in the midst of a record's head: it is begun, and not open.
func TestBrokenOff(t *testing.T) {
	for _, b := range []string{"\x16\x03\x01\x41", "\x16\x03\x01\x00\x00", "\x16\x04", "\x16\x03\x05"} {
		tells(t, "ahead of the error", took(b[:len(b)-1]), true, 0)
		tells(t, "behind the error", took(b), false, 0)
	}
}

func TestManyRecords(t *testing.T) {
	d := took(strings.Repeat(rec(1, "a"), 70000))
	tells(t, "behind many", d, false, 70000)
	takes(t, d, 0x16, false, api.OK)
	tells(t, "one begun", d, true, 70000)
}

// P7.3

func TestAllWritten(t *testing.T) {
	all(t, "", "", -1, api.OK)
	all(t, "\x16\x03\x01\x00\x01\x61", "a", -1, api.OK)
	all(t, "\x16\x03\x01\x00\x02ab\x16\x03\x03\x00\x01c", "abc", -1, api.OK)
	all(t, "\x16", "", -1, api.OK)
	all(t, "\x16\x03\x01\x00\x02", "", -1, api.OK)
	all(t, "\x16\x03\x01\x00\x02a", "a", -1, api.OK) // up to where the bytes end
	all(t, "\x16\x03\x01\x00\x02ab\x16\x03\x03\x00\x03c", "abc", -1, api.OK)
	all(t, "\x16\x03\x01\x00\x01ab", "a", 6, api.ErrType)
	all(t, "\x16\x03\x01\x00\x02ab\x16\x03\x03\x00\x01c\x16\x03\x03\x00\x00d", "abc", 17, api.ErrLength)
	if x, at, e := record.All(nil); len(x) != 0 || at != -1 || e != api.OK {
		t.Errorf("of nil: %x %d %d", x, at, e)
	}
}

// TestAllWrong lays each error behind records, and other bytes behind it.
func TestAllWrong(t *testing.T) {
	full := strings.Repeat("f", most)
	for bad, fault := range wrong() {
		for ahead, payload := range map[string]string{"": "", rec(1, "a"): "a", rec(0, "ab") + rec(4, "c"): "abc", rec(2, full): full} {
			for _, behind := range []string{"", "\x16", rec(1, "xyz"), strings.Repeat("\xff", 99)} {
				all(t, ahead+bad+behind, payload, len(ahead+bad)-1, fault)
			}
		}
	}
}

// TestEachBeginning asks for each beginning of some records.
func TestEachBeginning(t *testing.T) {
	b := rec(0, "a") + rec(1, "\x16\x03\x01\x00\x01") + rec(4, strings.Repeat("\x17", 260)) + rec(3, "z") + "\x16\x03\x05" + rec(3, "z")
	for n := range len(b) + 1 {
		held(t, []byte(b[:n]))
	}
}

func TestAllOfTheGreatest(t *testing.T) {
	full := string(mixed(most))
	all(t, rec(1, full), full, -1, api.OK)
	all(t, rec(1, full)+rec(1, full)+"\x16", full+full, -1, api.OK)
	all(t, rec(1, full)+"\x15", full, most+5, api.ErrType)
	all(t, rec(1, full+"x"), "", 4, api.ErrLength)
	all(t, rec(1, strings.Repeat("x", 0x4100)), "", 3, api.ErrLength)
}

func TestAllMemory(t *testing.T) {
	for _, text := range []string{rec(1, "abc") + rec(1, "de"), rec(1, "abcde") + "\x17", rec(1, "abcdefg")[:10]} {
		whole := []byte(text + "spare room")
		b := whole[:len(text)]
		x, _, _ := record.All(b)
		y, _, _ := record.All(b)
		spoil(y)
		if string(whole) != text+"spare room" {
			t.Errorf("what was handed in became %q", whole)
		}
		spoil(whole)
		if string(x) != "abcde" {
			t.Errorf("the answer became %q", x)
		}
	}
}

// P7.4

func TestFrameWritten(t *testing.T) {
	for _, row := range []struct {
		x    string
		size int
		want string
	}{
		{"a", 1, "\x16\x03\x01\x00\x01\x61"},
		{"abc", 2, "\x16\x03\x01\x00\x02ab\x16\x03\x01\x00\x01c"},
		{"abcd", 2, "\x16\x03\x01\x00\x02ab\x16\x03\x01\x00\x02cd"},
		{"abc", 3, "\x16\x03\x01\x00\x03abc"},
		{"abc", 4, "\x16\x03\x01\x00\x03abc"},
		{"abc", math.MaxInt, "\x16\x03\x01\x00\x03abc"},
		{"ab", 1, "\x16\x03\x01\x00\x01a\x16\x03\x01\x00\x01b"},
		{"ab", 0, "\x16\x03\x01\x00\x01a\x16\x03\x01\x00\x01b"},
		{"ab", -1, "\x16\x03\x01\x00\x01a\x16\x03\x01\x00\x01b"},
		{"ab", math.MinInt, "\x16\x03\x01\x00\x01a\x16\x03\x01\x00\x01b"},
		{"\x16\x03", 9, "\x16\x03\x01\x00\x02\x16\x03"},
	} {
		if got := record.Frame([]byte(row.x), row.size); string(got) != row.want {
			t.Errorf("Frame(%q, %d): %x, not %x", row.x, row.size, got, row.want)
		}
	}
}

func TestFrameNothing(t *testing.T) {
	for _, size := range []int{math.MinInt, -1, 0, 1, 5, most, most + 1, math.MaxInt} {
		if a, b := record.Frame(nil, size), record.Frame([]byte{}, size); len(a) != 0 || len(b) != 0 {
			t.Errorf("of nothing, %d: %x %x", size, a, b)
		}
	}
}

// TestFrameEvery frames texts about the sizes, and those about the limit.
func TestFrameEvery(t *testing.T) {
	came := string(mixed(2*most + 2))
	for _, size := range []int{math.MinInt, -1, 0, 1, 2, 3, 255, 256, 257, most - 1, most, most + 1, 1 << 16, 1<<32 + 1, math.MaxInt} {
		each := min(max(size, 1), most)
		for _, n := range []int{1, 2, 3, each - 1, each, each + 1, 2*each - 1, 2 * each, 2*each + 1} {
			x, want := came[:n], ""
			for rest := x; len(rest) > 0; rest = rest[min(each, len(rest)):] {
				want += rec(1, rest[:min(each, len(rest))])
			}
			if got := record.Frame([]byte(x), size); string(got) != want {
				t.Errorf("Frame of %d bytes, %d each: %d bytes, not %d", n, size, len(got), len(want))
			}
		}
	}
}

func TestFrameMemory(t *testing.T) {
	for _, size := range []int{1, 2, 3, 9} {
		whole := []byte("abcdefgh")
		x := whole[:3]
		one, two := record.Frame(x, size), record.Frame(x, size)
		want := bytes.Clone(one)
		spoil(two)
		if string(whole) != "abcdefgh" {
			t.Errorf("what was handed in became %q", whole)
		}
		spoil(whole)
		if !bytes.Equal(one, want) {
			t.Errorf("the answer became %x", one)
		}
	}
}

// P7.5

func TestFramedAndTaken(t *testing.T) {
	came := mixed(3*most + 7)
	for _, n := range []int{0, 1, 2, 3, 100, 1000, most - 1, most, most + 1, len(came)} {
		for _, size := range []int{math.MinInt, 0, 1, 2, 7, 255, 256, most - 1, most, most + 1, math.MaxInt} {
			b := record.Frame(came[:n], size)
			all(t, string(b), string(came[:n]), -1, api.OK)
			each := min(max(size, 1), most)
			tells(t, "all taken", took(string(b)), false, (n+each-1)/each)
		}
	}
}

// TestNoMoreBytes lays bytes without an order behind errors.
func TestNoMoreBytes(t *testing.T) {
	for bad, fault := range wrong() {
		b := rec(1, "a") + bad
		for n := range 40 {
			all(t, b+string(mixed(n)), "a", len(b)-1, fault)
			held(t, append([]byte(b), mixed(n)...))
		}
	}
}

// TestLikely holds rows of likely bytes against the second opinion.
func TestLikely(t *testing.T) {
	source := rand.New(rand.NewSource(7))
	for range 20000 {
		var b []byte
		for range source.Intn(4) {
			b = append(b, rec(byte(source.Intn(5)), string(mixed(1+source.Intn(9))))...)
		}
		for range source.Intn(9) {
			b = append(b, "\x16\x16\x03\x03\x00\x01\x02\x04\x05\x40\x41\x17"[source.Intn(12)])
		}
		held(t, b)
	}
}

func FuzzRecords(f *testing.F) {
	f.Add([]byte(rec(1, "a")), 1)
	f.Add([]byte(rec(0, "ab")+rec(4, "c")+"\x17"), 0)
	f.Add([]byte("\x16\x03\x03\x40\x00abc"), most)
	f.Add([]byte("\x16\x03\x03\x40\x01abc"), -1)
	f.Fuzz(func(t *testing.T, b []byte, size int) {
		held(t, b)
		framed := record.Frame(b, size)
		all(t, string(framed), string(b), -1, api.OK)
		held(t, framed)
	})
}
