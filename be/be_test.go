package be_test

import (
	"bytes"
	"math"
	"math/big"
	"testing"

	"hagioscope/be"
)

const guard = 0xa5

// roomy is bytes with spare room behind them, filled, so that a write there is seen.
func roomy(s string) []byte {
	whole := append([]byte(s), bytes.Repeat([]byte{guard}, 64)...)
	return whole[:len(s)]
}

// untouched fails if b, or its spare room, is not as roomy(s) made it.
func untouched(t *testing.T, what string, b []byte, s string) {
	t.Helper()
	if got, want := b[:cap(b)], roomy(s); !bytes.Equal(got[:len(s)+64], want[:len(s)+64]) {
		t.Errorf("%s: what was handed in became %x", what, got)
	}
}

// spoil writes over b and its spare room.
func spoil(b []byte) {
	b = b[:cap(b)]
	for i := range b {
		b[i] = ^b[i]
	}
}

// clampedSize is a second opinion on which size counts.
func clampedSize(size int) int { return min(max(size, 1), 4) }

// bytesOf is a second opinion on the bytes of a number, by numbers without an end.
func bytesOf(n, size int) []byte {
	k := clampedSize(size)
	modulus := new(big.Int).Exp(big.NewInt(256), big.NewInt(int64(k)), nil)
	return new(big.Int).Mod(big.NewInt(int64(n)), modulus).FillBytes(make([]byte, k))
}

var sizes = []int{math.MinInt, -1, 0, 1, 2, 3, 4, 5, 8, math.MaxInt}

// P1.1

func TestPutWritten(t *testing.T) {
	for _, c := range []struct {
		b       string
		n, size int
		want    string
	}{
		{"", 258, 3, "\x00\x01\x02"},
		{"ab", 258, 3, "ab\x00\x01\x02"},
		{"", 0, 1, "\x00"},
		{"", 255, 1, "\xff"},
		{"", 256, 1, "\x00"},
		{"", 257, 1, "\x01"},
		{"", -1, 1, "\xff"},
		{"", -256, 1, "\x00"},
		{"", -1, 4, "\xff\xff\xff\xff"},
		{"", -2, 2, "\xff\xfe"},
		{"", 0x01020304, 4, "\x01\x02\x03\x04"},
		{"", 0x0102030405, 4, "\x02\x03\x04\x05"},
		{"", math.MaxInt, 4, "\xff\xff\xff\xff"},
		{"", math.MinInt, 4, "\x00\x00\x00\x00"},
		{"", 0x0102, 0, "\x02"},
		{"", 0x0102, -7, "\x02"},
		{"", 0x0102, math.MinInt, "\x02"},
		{"", 0x0102, 5, "\x00\x00\x01\x02"},
		{"", 0x0102, math.MaxInt, "\x00\x00\x01\x02"},
	} {
		if got := be.Put([]byte(c.b), c.n, c.size); string(got) != c.want {
			t.Errorf("Put(%q, %d, %d): %x, not %x", c.b, c.n, c.size, got, c.want)
		}
	}
}

func TestPutEdges(t *testing.T) {
	var numbers []int
	for shift := range 64 {
		for step := -1; step <= 1; step++ {
			numbers = append(numbers, 1<<shift+step, -(1<<shift)+step)
		}
	}
	for _, size := range sizes {
		for _, n := range numbers {
			want := append([]byte("b"), bytesOf(n, size)...)
			if got := be.Put([]byte("b"), n, size); !bytes.Equal(got, want) {
				t.Errorf("Put(b, %d, %d): %x, not %x", n, size, got, want)
			}
		}
	}
	if got := be.Put(nil, 1, 2); string(got) != "\x00\x01" {
		t.Errorf("behind nil: %x", got)
	}
}

func TestVecWritten(t *testing.T) {
	for _, c := range []struct {
		b    string
		size int
		x    string
		want string
	}{
		{"", 1, "", "\x00"},
		{"a", 1, "bc", "a\x02bc"},
		{"a", 2, "bc", "a\x00\x02bc"},
		{"a", 3, "bc", "a\x00\x00\x02bc"},
		{"a", 4, "bc", "a\x00\x00\x00\x02bc"},
		{"a", 4, "", "a\x00\x00\x00\x00"},
		{"a", 0, "bc", "a\x02bc"},
		{"a", math.MinInt, "bc", "a\x02bc"},
		{"a", 5, "bc", "a\x00\x00\x00\x02bc"},
		{"a", math.MaxInt, "bc", "a\x00\x00\x00\x02bc"},
	} {
		if got, ok := be.Vec([]byte(c.b), c.size, []byte(c.x)); string(got) != c.want || !ok {
			t.Errorf("Vec(%q, %d, %q): %x %t, not %x", c.b, c.size, c.x, got, ok, c.want)
		}
	}
	if got, ok := be.Vec(nil, 2, nil); string(got) != "\x00\x00" || !ok {
		t.Errorf("of nothing: %x %t", got, ok)
	}
}

func TestVecAtAndPastItsSize(t *testing.T) {
	for _, c := range []struct {
		size, length int
		ok           bool
	}{
		{1, 254, true}, {1, 255, true}, {1, 256, false}, {1, 257, false}, {1, 512, false},
		{math.MinInt, 255, true}, {math.MinInt, 256, false}, {0, 255, true}, {0, 256, false},
		{2, 256, true}, {2, 1<<16 - 1, true}, {2, 1 << 16, false}, {2, 1<<16 + 1, false}, {2, 1 << 17, false},
		{3, 1 << 16, true}, {3, 1<<24 - 1, true}, {3, 1 << 24, false}, {3, 1<<24 + 1, false},
		{4, 1<<24 - 1, true}, {4, 1 << 24, true}, {5, 1 << 24, true}, {math.MaxInt, 1 << 24, true},
	} {
		x := bytes.Repeat([]byte{'x'}, c.length)
		want := []byte("ab")
		if c.ok {
			want = append(append(want, bytesOf(c.length, c.size)...), x...)
		}
		if got, ok := be.Vec([]byte("ab"), c.size, x); ok != c.ok || !bytes.Equal(got, want) {
			t.Errorf("Vec(ab, %d, %d bytes): %d bytes, %t", c.size, c.length, len(got), ok)
		}
	}
	if got, ok := be.Vec(nil, 1, make([]byte, 256)); len(got) != 0 || ok {
		t.Errorf("past its size, behind nil: %x %t", got, ok)
	}
}

// P1.2

// state holds a reader against how many bytes it should have left, or -1 if it should be Bad.
func state(t *testing.T, what string, r *be.Reader, left int) {
	t.Helper()
	if got, want := r.Bad(), left < 0; got != want {
		t.Errorf("%s: Bad is %t", what, got)
	}
	if got, want := r.Left(), max(left, 0); got != want {
		t.Errorf("%s: Left is %d, not %d", what, got, want)
	}
	if got, want := r.Done(), left == 0; got != want {
		t.Errorf("%s: Done is %t", what, got)
	}
}

// staysBad asks all that can be asked of a reader that is Bad.
func staysBad(t *testing.T, what string, r *be.Reader) {
	t.Helper()
	state(t, what, r, -1)
	for _, n := range []int{0, 1, -1, 3, math.MaxInt, math.MinInt} {
		if got := r.Take(n); len(got) != 0 {
			t.Errorf("%s: behind it Take(%d): %x", what, n, got)
		}
		if got := r.Num(n); got != 0 {
			t.Errorf("%s: behind it Num(%d): %d", what, n, got)
		}
		if got := r.Vec(n); len(got) != 0 {
			t.Errorf("%s: behind it Vec(%d): %x", what, n, got)
		}
		state(t, what, r, -1)
	}
}

func TestReadAtItsBeginning(t *testing.T) {
	for _, n := range []int{0, 1, 2, 300} {
		state(t, "new", be.Read(make([]byte, n)), n)
	}
	state(t, "of nil", be.Read(nil), 0)
}

func TestNum(t *testing.T) {
	whole := []byte{0xf1, 0x02, 0xf3, 0x04, 0xf5}
	for size, want := range map[int]int{
		math.MinInt: 0xf1, -1: 0xf1, 0: 0xf1, 1: 0xf1, 2: 0xf102, 3: 0xf102f3,
		4: 0xf102f304, 5: 0xf102f304, 9: 0xf102f304, math.MaxInt: 0xf102f304,
	} {
		r := be.Read(whole)
		if got := r.Num(size); got != want {
			t.Errorf("Num(%d): %x, not %x", size, got, want)
		}
		state(t, "behind Num", r, len(whole)-clampedSize(size))
	}
	r := be.Read([]byte{1, 2, 3})
	if a, b := r.Num(1), r.Num(2); a != 1 || b != 0x203 {
		t.Errorf("one behind the other: %x %x", a, b)
	}
	state(t, "all read", r, 0)
}

func TestNumMissing(t *testing.T) {
	for _, size := range sizes {
		for have := range clampedSize(size) {
			r := be.Read(bytes.Repeat([]byte{7}, have))
			if got := r.Num(size); got != 0 {
				t.Errorf("Num(%d) of %d bytes: %d", size, have, got)
			}
			staysBad(t, "Num of too few", r)
		}
	}
}

func TestTake(t *testing.T) {
	r := be.Read([]byte("abcdef"))
	for _, c := range []struct {
		n    int
		want string
		left int
	}{{0, "", 6}, {1, "a", 5}, {3, "bcd", 2}, {0, "", 2}, {2, "ef", 0}, {0, "", 0}} {
		if got := r.Take(c.n); string(got) != c.want {
			t.Errorf("Take(%d): %q, not %q", c.n, got, c.want)
		}
		state(t, "behind Take", r, c.left)
	}
	r.Take(1)
	staysBad(t, "Take with nothing left", r)
}

func TestTakeWrong(t *testing.T) {
	for _, n := range []int{-1, -3, math.MinInt, 4, 5, 1 << 40, math.MaxInt} {
		r := be.Read([]byte("abc"))
		if got := r.Take(n); len(got) != 0 {
			t.Errorf("Take(%d) of 3: %q", n, got)
		}
		staysBad(t, "Take of what is not there", r)
	}
	for _, n := range []int{-1, 1} {
		r := be.Read(nil)
		r.Take(n)
		staysBad(t, "Take of nothing", r)
	}
}

func TestReaderVec(t *testing.T) {
	for _, c := range []struct {
		b    string
		size int
		want string
		left int
	}{
		{"\x02abc", 1, "ab", 1},
		{"\x03abc", 1, "abc", 0},
		{"\x00abc", 1, "", 3},
		{"\x00", 1, "", 0},
		{"\x00\x02abc", 2, "ab", 1},
		{"\x00\x00\x02abc", 3, "ab", 1},
		{"\x00\x00\x00\x02abc", 4, "ab", 1},
		{"\x02abc", 0, "ab", 1},
		{"\x02abc", math.MinInt, "ab", 1},
		{"\x00\x00\x00\x02abc", 5, "ab", 1},
		{"\x00\x00\x00\x02abc", math.MaxInt, "ab", 1},
		{"\x04abc", 1, "", -1},
		{"\xffabc", 1, "", -1},
		{"\x01\x00abc", 2, "", -1},
		{"\x01", 1, "", -1},
		{"", 1, "", -1},
		{"\x00", 2, "", -1},
		{"\x00\x00", 3, "", -1},
		{"\x00\x00\x00", 4, "", -1},
		{"\xff\xff\xff\xffabc", 4, "", -1},
		{"\x80\x00\x00\x00abc", 9, "", -1},
	} {
		r := be.Read([]byte(c.b))
		if got := r.Vec(c.size); string(got) != c.want {
			t.Errorf("Vec(%d) of %x: %q, not %q", c.size, c.b, got, c.want)
		}
		state(t, "behind Vec", r, c.left)
		if c.left < 0 {
			staysBad(t, "Vec of what is not there", r)
		}
	}
}

func TestReadersAreTheirOwn(t *testing.T) {
	b := []byte("ab")
	bad, good := be.Read(b), be.Read(b)
	bad.Take(3)
	state(t, "beside a Bad one", good, 2)
	if got := good.Take(2); string(got) != "ab" {
		t.Errorf("beside a Bad one: %q", got)
	}
}

// P1.3

func TestPutMemory(t *testing.T) {
	for _, size := range sizes {
		b := roomy("ab")
		first, second := be.Put(b, 0x01020304, size), be.Put(b, 0x05060708, size)
		untouched(t, "Put", b, "ab")
		want := append([]byte("ab"), bytesOf(0x01020304, size)...)
		spoil(second)
		if !bytes.Equal(first, want) {
			t.Errorf("Put(.., %d): two answers share memory: %x", size, first)
		}
		spoil(b)
		if !bytes.Equal(first, want) {
			t.Errorf("Put(.., %d): the answer changed with b: %x", size, first)
		}
		b = roomy("ab")
		spoil(be.Put(b, 1, size))
		untouched(t, "what Put answered was written over", b, "ab")
	}
}

func TestVecMemory(t *testing.T) {
	long := string(bytes.Repeat([]byte{'x'}, 256))
	for _, text := range []string{"", "xy", long} { // the last is more than its size can tell
		b, x := roomy("ab"), roomy(text)
		first, ok := be.Vec(b, 1, x)
		second, _ := be.Vec(b, 1, x)
		if ok != (len(text) < 256) {
			t.Fatalf("%d bytes: %t", len(text), ok)
		}
		want := bytes.Clone(first)
		spoil(second)
		untouched(t, "Vec, b", b, "ab")
		untouched(t, "Vec, x", x, text)
		spoil(b)
		spoil(x)
		if !bytes.Equal(first, want) {
			t.Errorf("Vec of %d bytes: the answer changed with what was handed in, or another answer", len(text))
		}
	}
}

// TestOverlap hands in two lists that lie in one memory.
func TestOverlap(t *testing.T) {
	whole := []byte("abcdef")
	if got, ok := be.Vec(whole[:2], 1, whole[1:4]); string(got) != "ab\x03bcd" || !ok {
		t.Errorf("Vec: %q %t", got, ok)
	}
	if string(whole) != "abcdef" {
		t.Errorf("what was handed in became %q", whole)
	}
}

func TestReaderMemory(t *testing.T) {
	const text = "ab\x02cd\x01\x02ef"
	b := roomy(text)
	r := be.Read(b)
	kept := [][]byte{r.Take(0), r.Take(1)}
	untouched(t, "Read", b, text)
	spoil(b)
	kept = append(kept, r.Take(1), r.Vec(1))
	for _, l := range kept {
		spoil(l)
	}
	if got := r.Num(2); got != 0x102 {
		t.Errorf("Num behind what was written over: %x", got)
	}
	last := r.Take(2)
	if string(last) != "ef" {
		t.Errorf("Take behind what was written over: %q", last)
	}
	for i, want := range []string{"", "\x9e", "\x9d", "\x9c\x9b"} {
		if string(kept[i]) != want {
			t.Errorf("answer %d changed with another: %x", i, kept[i])
		}
	}
	b = roomy(text)
	r = be.Read(b)
	spoil(r.Take(2))
	spoil(r.Vec(1))
	untouched(t, "what the reader answered was written over", b, text)
}

// P1.4

func TestPutAndRead(t *testing.T) {
	for _, size := range sizes {
		top := 1<<(8*clampedSize(size)) - 1
		numbers := []int{0, 1, 2, 127, 128, 254, 255, top / 2, top - 1, top}
		var b []byte
		for _, n := range numbers {
			b = be.Put(b, n, size)
		}
		r := be.Read(b)
		for _, n := range numbers {
			if got := r.Num(size); got != n {
				t.Errorf("size %d: %d was read as %d", size, n, got)
			}
		}
		state(t, "all numbers read", r, 0)
	}
}

func TestVecAndRead(t *testing.T) {
	for _, size := range sizes {
		var b []byte
		lengths := []int{0, 1, 2, 254, 255}
		if clampedSize(size) > 1 {
			lengths = append(lengths, 256, 1<<16-1)
		}
		for i, n := range lengths {
			var ok bool
			if b, ok = be.Vec(b, size, bytes.Repeat([]byte{byte(i)}, n)); !ok {
				t.Fatalf("size %d: %d bytes were not laid", size, n)
			}
		}
		r := be.Read(b)
		for i, n := range lengths {
			if got := r.Vec(size); !bytes.Equal(got, bytes.Repeat([]byte{byte(i)}, n)) {
				t.Errorf("size %d: %d bytes were read as %d", size, n, len(got))
			}
		}
		state(t, "all vectors read", r, 0)
	}
}

func TestMixedAndRead(t *testing.T) {
	b := be.Put([]byte("head"), 0x0303, 2)
	b, _ = be.Vec(b, 1, []byte("session"))
	b = be.Put(b, -1, 3)
	inner, _ := be.Vec(nil, 2, []byte("name"))
	b, _ = be.Vec(b, 3, inner)
	r := be.Read(b)
	if head, n := string(r.Take(4)), r.Num(2); head != "head" || n != 0x0303 {
		t.Errorf("%q %x", head, n)
	}
	if session, n := string(r.Vec(1)), r.Num(3); session != "session" || n != 1<<24-1 {
		t.Errorf("%q %x", session, n)
	}
	in := be.Read(r.Vec(3))
	if got := string(in.Vec(2)); got != "name" {
		t.Errorf("%q", got)
	}
	state(t, "the inner one", in, 0)
	state(t, "the outer one", r, 0)
}

// FuzzReader plays calls from bytes against a plain second reader.
func FuzzReader(f *testing.F) {
	f.Add([]byte("\x02abc"), []byte{2, 1, 1, 1})
	f.Add([]byte{}, []byte{0, 0})
	f.Fuzz(func(t *testing.T, b, calls []byte) {
		r, at, bad := be.Read(b), 0, false
		next := func(n int) []byte {
			bad = bad || n < 0 || n > len(b)-at
			if bad {
				return nil
			}
			at += n
			return b[at-n : at]
		}
		num := func(size int) int {
			return int(new(big.Int).SetBytes(next(clampedSize(size))).Int64())
		}
		for i := 0; i+1 < len(calls); i += 2 {
			n := int(int8(calls[i+1]))
			switch calls[i] % 3 {
			case 0:
				if got, want := r.Num(n), num(n); got != want {
					t.Fatalf("Num(%d): %d, not %d", n, got, want)
				}
			case 1:
				if got, want := r.Take(n), next(n); !bytes.Equal(got, want) {
					t.Fatalf("Take(%d): %x, not %x", n, got, want)
				}
			case 2:
				if got, want := r.Vec(n), next(num(n)); !bytes.Equal(got, want) {
					t.Fatalf("Vec(%d): %x, not %x", n, got, want)
				}
			}
			left := len(b) - at
			if bad {
				left = -1
			}
			state(t, "behind a call", r, left)
		}
	})
}
