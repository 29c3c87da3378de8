package ring_test

import (
	"bytes"
	"math"
	"math/rand"
	"testing"

	"hagioscope/api"
	"hagioscope/ring"
)

// roomOf is a second opinion on how much room there is.
func roomOf(room int) int { return min(max(room, 0), 1<<16) }

// row is n bytes, each one more than the one ahead of it.
func row(from byte, n int) []byte {
	out := make([]byte, n)
	for i := range out {
		out[i] = from + byte(i)
	}
	return out
}

// mixed is n bytes without an order, the same ones in each run.
func mixed(n int) []byte {
	out := make([]byte, n)
	rand.New(rand.NewSource(5)).Read(out)
	return out
}

// has holds what a queue tells against what it should have; none of the questions changes it.
func has(t *testing.T, what string, q *ring.Ring, room int, want []byte) {
	t.Helper()
	for range 2 {
		if got := q.Len(); got != len(want) {
			t.Fatalf("%s: Len is %d, not %d", what, got, len(want))
		}
		if got := q.Free(); got != room-len(want) {
			t.Fatalf("%s: Free is %d, not %d", what, got, room-len(want))
		}
		if got := q.Full(); got != (len(want) == room) {
			t.Fatalf("%s: Full is %t", what, got)
		}
		if got := q.See(math.MaxInt); !bytes.Equal(got, want) {
			t.Fatalf("%s: it has %x, not %x", what, got, want)
		}
	}
}

// spoil writes over b and its spare room.
func spoil(b []byte) {
	b = b[:cap(b)]
	for i := range b {
		b[i] = ^b[i]
	}
}

// P5.1

func TestNew(t *testing.T) {
	for room, want := range map[int]int{
		math.MinInt: 0, math.MinInt + 1: 0, -1 << 16: 0, -1: 0, 0: 0, 1: 1, 2: 2, 3: 3, 255: 255, 256: 256, 1<<16 - 1: 1<<16 - 1,
		1 << 16: 1 << 16, 1<<16 + 1: 1 << 16, 1 << 17: 1 << 16, 1 << 32: 1 << 16, 1<<32 + 5: 1 << 16, math.MaxInt - 1: 1 << 16, math.MaxInt: 1 << 16,
	} {
		q := ring.New(room)
		if q.Len() != 0 || q.Free() != want || q.Full() != (want == 0) {
			t.Errorf("New(%d): %d bytes, room for %d, Full %t", room, q.Len(), q.Free(), q.Full())
		}
		has(t, "new", q, want, nil)
	}
	if got := ring.New(math.MaxInt).Free(); got != api.MaxRing {
		t.Errorf("the most is %d, not MaxRing", got)
	}
}

// TestFillAndEmpty fills queues of all kinds of rooms past their ends, and empties them again, byte by byte.
func TestFillAndEmpty(t *testing.T) {
	for _, room := range []int{math.MinInt, -1, 0, 1, 2, 3, 7, 64} {
		q, k := ring.New(room), roomOf(room)
		var want []byte
		for i := range k + 3 {
			n := 0
			if i < k {
				n, want = 1, append(want, byte(i))
			}
			if got := q.Push([]byte{byte(i)}); got != n {
				t.Errorf("room %d, byte %d: Push answers %d", room, i, got)
			}
			has(t, "filled", q, k, want)
		}
		for range k + 3 {
			n := min(1, len(want))
			if got := q.Pop(1); !bytes.Equal(got, want[:n]) {
				t.Errorf("room %d: Pop answers %x, not %x", room, got, want[:n])
			}
			want = want[n:]
			has(t, "emptied", q, k, want)
		}
	}
}

func TestGreatest(t *testing.T) {
	q := ring.New(math.MaxInt)
	b := mixed(1<<16 + 3)
	if got := q.Push(b); got != 1<<16 {
		t.Fatalf("Push of one past the most: %d", got)
	}
	has(t, "full", q, 1<<16, b[:1<<16])
	if got := q.Pop(5); !bytes.Equal(got, b[:5]) {
		t.Errorf("Pop(5): %x", got)
	}
	if got := q.Push([]byte("abcdefg")); got != 5 {
		t.Errorf("Push of 7 where there is room for 5: %d", got)
	}
	has(t, "gone round", q, 1<<16, append(bytes.Clone(b[5:1<<16]), "abcde"...))
}

// P5.2

func TestWritten(t *testing.T) {
	q := ring.New(3)
	if got := q.Push([]byte("abcd")); got != 3 {
		t.Errorf("Push(abcd): %d", got)
	}
	has(t, "behind abcd", q, 3, []byte("abc"))
	if got := q.Pop(2); string(got) != "ab" {
		t.Errorf("Pop(2): %q", got)
	}
	has(t, "behind Pop", q, 3, []byte("c"))
	if got := q.Push([]byte("ef")); got != 2 {
		t.Errorf("Push(ef): %d", got)
	}
	has(t, "behind ef", q, 3, []byte("cef"))
	if got := q.Push([]byte("g")); got != 0 {
		t.Errorf("Push where there is no room: %d", got)
	}
	has(t, "behind g", q, 3, []byte("cef"))
}

func TestPushNothing(t *testing.T) {
	for _, room := range []int{-1, 0, 1, 3} {
		q := ring.New(room)
		for _, b := range [][]byte{nil, {}} {
			if got := q.Push(b); got != 0 {
				t.Errorf("room %d: Push of nothing: %d", room, got)
			}
			has(t, "behind nothing", q, roomOf(room), nil)
		}
	}
	q := ring.New(3)
	q.Push([]byte("ab"))
	q.Push(nil)
	has(t, "behind nothing", q, 3, []byte("ab"))
}

func TestSeeAndPop(t *testing.T) {
	for n, want := range map[int]string{
		math.MinInt: "", math.MinInt + 3: "", -4: "", -1: "", 0: "", 1: "c", 2: "cd", 3: "cde", 4: "cdef",
		5: "cdef", 6: "cdef", 1 << 16: "cdef", 1<<32 + 1: "cdef", math.MaxInt - 1: "cdef", math.MaxInt: "cdef",
	} {
		q := ring.New(5)
		q.Push([]byte("abc"))
		q.Pop(2)
		q.Push([]byte("def")) // its bytes go round
		for range 2 {
			if got := q.See(n); string(got) != want {
				t.Errorf("See(%d): %q, not %q", n, got, want)
			}
			has(t, "behind See", q, 5, []byte("cdef"))
		}
		if got := q.Pop(n); string(got) != want {
			t.Errorf("Pop(%d): %q, not %q", n, got, want)
		}
		has(t, "behind Pop", q, 5, []byte("cdef")[len(want):])
		if got := q.Push([]byte("ghijkl")); got != 1+len(want) {
			t.Errorf("Push behind Pop(%d): %d", n, got)
		}
		has(t, "filled again", q, 5, []byte("cdefghijkl")[len(want):len(want)+5])
	}
}

func TestNoRoom(t *testing.T) {
	for _, room := range []int{math.MinInt, -1, 0} {
		q := ring.New(room)
		for _, n := range []int{math.MinInt, -1, 0, 1, 2, math.MaxInt} {
			if got := q.Push(row('a', min(max(n, 0), 9))); got != 0 {
				t.Errorf("New(%d): Push: %d", room, got)
			}
			if got := q.See(n); len(got) != 0 {
				t.Errorf("New(%d): See(%d): %x", room, n, got)
			}
			if got := q.Pop(n); len(got) != 0 {
				t.Errorf("New(%d): Pop(%d): %x", room, n, got)
			}
			has(t, "no room", q, 0, nil)
		}
	}
}

// TestEveryPlace holds each call against a second opinion, at each place at which a queue's bytes may begin and end.
func TestEveryPlace(t *testing.T) {
	for room := range 6 {
		for first := range room + 1 {
			for count := range room + 1 {
				for n := -2; n <= room+2; n++ {
					start := func() *ring.Ring {
						q := ring.New(room)
						q.Push(row('z', first))
						q.Pop(first)
						q.Push(row('a', count))
						return q
					}
					all, k := row('a', count), min(max(n, 0), count)
					q := start()
					if got := q.See(n); !bytes.Equal(got, all[:k]) {
						t.Errorf("room %d, %d from %d on: See(%d): %q", room, count, first, n, got)
					}
					has(t, "behind See", q, room, all)
					if got := q.Pop(n); !bytes.Equal(got, all[:k]) {
						t.Errorf("room %d, %d from %d on: Pop(%d): %q", room, count, first, n, got)
					}
					has(t, "behind Pop", q, room, all[k:])
					q, more := start(), row('A', max(n, 0))
					took := min(len(more), room-count)
					if got := q.Push(more); got != took {
						t.Errorf("room %d, %d from %d on: Push of %d: %d", room, count, first, len(more), got)
					}
					has(t, "behind Push", q, room, append(all, more[:took]...))
				}
			}
		}
	}
}

func TestApart(t *testing.T) {
	a, b := ring.New(4), ring.New(4)
	a.Push([]byte("abc"))
	has(t, "beside another", b, 4, nil)
	b.Push([]byte("wxyz"))
	a.Pop(1)
	has(t, "one", a, 4, []byte("bc"))
	has(t, "the other", b, 4, []byte("wxyz"))
}

// P5.3

// TestPushMemory hands in bytes with spare room behind them, and writes over all of it.
func TestPushMemory(t *testing.T) {
	for first := range 5 { // in one piece, and in two
		for taken := range 6 {
			whole := []byte("abcdefgh")
			q := ring.New(5)
			q.Push(row('z', first))
			q.Pop(first)
			n := q.Push(whole[:taken])
			if string(whole) != "abcdefgh" {
				t.Errorf("Push changed what was handed in: %q", whole)
			}
			for _, more := range []string{"ABCDEFGH", "IJKLMNOP"} {
				q.Pop(2)
				q.Push([]byte(more))
				if string(whole) != "abcdefgh" {
					t.Errorf("a later call changed what was handed in: %q", whole)
				}
			}
			q.Pop(5)
			q.Push(whole[:taken])
			spoil(whole)
			has(t, "what was handed in was written over", q, 5, []byte("abcdefgh")[:n])
		}
	}
}

func TestAnswersMemory(t *testing.T) {
	for first := range 5 {
		q := ring.New(5)
		q.Push(row('z', first))
		q.Pop(first)
		q.Push([]byte("abcde"))
		for n := -1; n <= 6; n++ {
			spoil(q.See(n))
			has(t, "what See answered was written over", q, 5, []byte("abcde"))
		}
		seen, again := q.See(4), q.See(4)
		spoil(seen)
		if string(again) != "abcd" {
			t.Errorf("two answers share memory: %q", again)
		}
		popped := q.Pop(3)
		spoil(again)
		q.Push([]byte("fgh"))
		if string(popped) != "abc" {
			t.Errorf("what Pop answered changed: %q", popped)
		}
		spoil(popped)
		has(t, "what Pop answered was written over", q, 5, []byte("defgh"))
		spoil(q.Pop(1))
		has(t, "what Pop answered was written over", q, 5, []byte("efgh"))
		spoil(q.Pop(0))
		has(t, "what Pop answered was written over", q, 5, []byte("efgh"))
	}
}

// TestItsOwnBytes hands in what a queue answered.
func TestItsOwnBytes(t *testing.T) {
	q := ring.New(6)
	q.Push([]byte("wxyz"))
	q.Pop(4)
	q.Push([]byte("abc"))
	if got := q.Push(q.See(3)); got != 3 {
		t.Errorf("Push of what it has: %d", got)
	}
	has(t, "twice", q, 6, []byte("abcabc"))
	q.Push(q.Pop(2))
	has(t, "turned", q, 6, []byte("cabcab"))
}

// P5.4

// play makes the calls that some bytes tell, of a queue and of a second opinion, which keeps all that came.
func play(t *testing.T, room int, calls []byte) {
	q, k := ring.New(room), roomOf(room)
	var came, went []byte
	next := byte(0)
	for i := 0; i+1 < len(calls); i += 2 {
		n := int(int8(calls[i+1]))
		if n == math.MinInt8 {
			n = math.MaxInt
		}
		waits := came[len(went):]
		first := min(max(n, 0), len(waits))
		switch calls[i] % 3 {
		case 0:
			b := row(next, min(max(n, 0), 1<<8))
			took := q.Push(b)
			if took != min(len(b), k-len(waits)) {
				t.Fatalf("Push of %d where there is room for %d: %d", len(b), k-len(waits), took)
			}
			came = append(came, b[:took]...)
			next += byte(took)
		case 1:
			got := q.Pop(n)
			if !bytes.Equal(got, waits[:first]) {
				t.Fatalf("Pop(%d): %x, not %x", n, got, waits[:first])
			}
			went = append(went, got...)
		case 2:
			if got := q.See(n); !bytes.Equal(got, waits[:first]) {
				t.Fatalf("See(%d): %x, not %x", n, got, waits[:first])
			}
		}
		has(t, "behind a call", q, k, came[len(went):])
	}
	went = append(went, q.Pop(math.MaxInt)...)
	if !bytes.Equal(went, came) {
		t.Fatalf("what went is %x, what came %x", went, came)
	}
	has(t, "at the end", q, k, nil)
}

func TestWhatGoesIsWhatCame(t *testing.T) {
	source := rand.New(rand.NewSource(5))
	for _, room := range []int{-3, 0, 1, 2, 3, 5, 8, 63, 64, 100, 127, 128, 300} {
		for range 20 {
			calls := make([]byte, 400)
			source.Read(calls)
			play(t, room, calls)
		}
	}
}

// TestRoundAndRound lets many times a queue's room go through it, in pieces that do not divide it.
func TestRoundAndRound(t *testing.T) {
	for _, room := range []int{1, 7, 1000, 1 << 16} {
		q, came := ring.New(room), mixed(5*room+11)
		var went []byte
		rest := came
		for range len(came) {
			rest = rest[q.Push(rest[:min(len(rest), room/2+3)]):]
			went = append(went, q.Pop(room/3+1)...)
			if len(went) == len(came) {
				break
			}
		}
		if !bytes.Equal(went, came) {
			t.Errorf("room %d: of %d bytes that came %d went, not the same ones", room, len(came), len(went))
		}
		has(t, "at the end", q, room, nil)
	}
}

func FuzzRing(f *testing.F) {
	f.Add(3, []byte{0, 4, 1, 2, 0, 2, 2, 9})
	f.Add(0, []byte{0, 1, 1, 1, 2, 1})
	f.Add(-1, []byte{0, 1, 1, 255, 2, 128})
	f.Add(5, []byte{0, 127, 1, 3, 0, 127, 1, 128})
	f.Add(math.MaxInt, []byte{0, 127, 2, 128, 1, 128})
	f.Fuzz(func(t *testing.T, room int, calls []byte) { play(t, room, calls[:min(len(calls), 200)]) })
}
