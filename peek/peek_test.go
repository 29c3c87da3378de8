package peek_test

import (
	"bytes"
	"math"
	"math/rand"
	"testing"

	"hagioscope/api"
	"hagioscope/peek"
)

// mostOf is a second opinion on how many bytes there may be.
func mostOf(most int) int { return min(max(most, 0), 1<<14) }

// row is n bytes, each one more than the one ahead of it.
func row(from byte, n int) []byte {
	out := make([]byte, n)
	for i := range out {
		out[i] = from + byte(i)
	}
	return out
}

// mixed is n bytes without an order, the same ones in each run.
func mixed(n int) []byte {
	out := make([]byte, n)
	rand.New(rand.NewSource(6)).Read(out)
	return out
}

// filled is a buffer that has these bytes, has played so many of them, and is not Over.
func filled(most int, b string, played int) *peek.Buffer {
	p := peek.New(most)
	p.Add([]byte(b))
	p.Next(played)
	return p
}

// has holds what a buffer tells against what it should have; none of the questions changes it.
func has(t *testing.T, what string, p *peek.Buffer, want string, left int, over bool) {
	t.Helper()
	for range 2 {
		if got := p.Bytes(); string(got) != want {
			t.Fatalf("%s: it has %x, not %x", what, got, want)
		}
		if got := p.Len(); got != len(want) {
			t.Fatalf("%s: Len is %d, not %d", what, got, len(want))
		}
		if got := p.Left(); got != left {
			t.Fatalf("%s: Left is %d, not %d", what, got, left)
		}
		if got := p.Over(); got != over {
			t.Fatalf("%s: Over is %t", what, got)
		}
	}
}

// added fails if Add of b does not answer n.
func added(t *testing.T, p *peek.Buffer, b string, n int) {
	t.Helper()
	if got := p.Add([]byte(b)); got != n {
		t.Fatalf("Add(%s): %d, not %d", b, got, n)
	}
}

// played fails if Next of n does not answer want.
func played(t *testing.T, p *peek.Buffer, n int, want string) {
	t.Helper()
	if got := p.Next(n); string(got) != want {
		t.Fatalf("Next(%d): %q, not %q", n, got, want)
	}
}

// spoil writes over b and its spare room.
func spoil(b []byte) {
	b = b[:cap(b)]
	for i := range b {
		b[i] = ^b[i]
	}
}

// P6.1

func TestNew(t *testing.T) {
	came := string(mixed(1<<14 + 9))
	for most, want := range map[int]int{
		math.MinInt: 0, math.MinInt + 1: 0, -1 << 14: 0, -1: 0, 0: 0, 1: 1, 2: 2, 255: 255, 256: 256, 1<<14 - 1: 1<<14 - 1,
		1 << 14: 1 << 14, 1<<14 + 1: 1 << 14, 1 << 15: 1 << 14, 1 << 16: 1 << 14, 1 << 32: 1 << 14, 1<<32 + 5: 1 << 14, math.MaxInt - 1: 1 << 14, math.MaxInt: 1 << 14,
	} {
		p := peek.New(most)
		has(t, "new", p, "", 0, false)
		added(t, p, came, want)
		has(t, "filled", p, came[:want], want, true)
	}
	if got := peek.New(math.MaxInt).Add(make([]byte, 1<<17)); got != api.MaxPeek {
		t.Errorf("the most is %d, not MaxPeek", got)
	}
}

func TestWritten(t *testing.T) {
	p := peek.New(3)
	added(t, p, "abcd", 3)
	has(t, "behind abcd", p, "abc", 3, true)
	played(t, p, 2, "ab")
	has(t, "behind Next", p, "abc", 1, true)
	p.Back()
	has(t, "behind Back", p, "abc", 3, true)
	played(t, p, 9, "abc")
	has(t, "behind Next", p, "abc", 0, true)
}

// TestAddAll adds pieces of each length to buffers that may have more, just so many, and fewer.
func TestAddAll(t *testing.T) {
	for most := -1; most <= 5; most++ {
		for first := range 8 {
			for second := range 8 {
				p, k := peek.New(most), mostOf(most)
				came := string(row('a', first))
				took := min(first, k)
				added(t, p, came, took)
				has(t, "behind the first", p, came[:took], took, first > k)
				more := string(row('A', second))
				n := min(second, k-took)
				added(t, p, more, n)
				has(t, "behind the second", p, came[:took]+more[:n], took+n, first+second > k)
			}
		}
	}
}

func TestAddNothing(t *testing.T) {
	for _, most := range []int{math.MinInt, -1, 0, 1, 3} {
		p := peek.New(most)
		for _, b := range [][]byte{nil, {}} {
			if got := p.Add(b); got != 0 {
				t.Errorf("at most %d: Add of nothing: %d", most, got)
			}
			has(t, "behind nothing", p, "", 0, false)
		}
	}
	p := peek.New(2)
	added(t, p, "ab", 2)
	added(t, p, "", 0)
	has(t, "a full one, behind nothing", p, "ab", 2, false)
	added(t, p, "c", 0)
	added(t, p, "", 0)
	has(t, "one that is Over, behind nothing", p, "ab", 2, true)
}

// TestOverStays makes every other call on a buffer that is Over.
func TestOverStays(t *testing.T) {
	for _, most := range []int{-1, 0, 1, 4} {
		p, k := peek.New(most), mostOf(most)
		all := string(row('a', k))
		added(t, p, all, k)
		has(t, "full", p, all, k, false)
		added(t, p, "z", 0)
		has(t, "Over", p, all, k, true)
		played(t, p, 9, all)
		has(t, "played", p, all, 0, true)
		added(t, p, "z", 0) // what was played makes no room
		has(t, "added to behind Next", p, all, 0, true)
		p.Back()
		has(t, "behind Back", p, all, k, true)
		added(t, p, "z", 0)
		has(t, "added to behind Back", p, all, k, true)
	}
}

// TestPlayedKeepsRoom plays ahead of each byte that is added, which neither makes room nor makes it Over.
func TestPlayedKeepsRoom(t *testing.T) {
	p := peek.New(4)
	for i, want := range []string{"a", "ab", "abc", "abcd"} {
		added(t, p, want[i:], 1)
		has(t, "added to", p, want, 1, false)
		played(t, p, 1, want[i:])
		has(t, "played", p, want, 0, false)
	}
	added(t, p, "e", 0)
	has(t, "past the most", p, "abcd", 0, true)
}

func TestGreatest(t *testing.T) {
	p, came := peek.New(math.MaxInt), string(mixed(1<<14+1))
	for i := range 1 << 14 {
		if got := p.Add([]byte{came[i]}); got != 1 {
			t.Fatalf("byte %d: Add: %d", i, got)
		}
	}
	has(t, "full", p, came[:1<<14], 1<<14, false)
	added(t, p, came[1<<14:], 0)
	has(t, "one past the most", p, came[:1<<14], 1<<14, true)
	for i := range 1 << 14 {
		played(t, p, 1, came[i:i+1])
	}
	played(t, p, 1, "")
	p.Back()
	played(t, p, 1<<14, came[:1<<14])
}

// P6.2

func TestNext(t *testing.T) {
	for n, want := range map[int]string{
		math.MinInt: "", math.MinInt + 2: "", -3: "", -2: "", -1: "", 0: "", 1: "c", 2: "cd", 3: "cde", 4: "cde",
		5: "cde", 1 << 14: "cde", 1<<32 + 1: "cde", math.MaxInt - 2: "cde", math.MaxInt - 1: "cde", math.MaxInt: "cde",
	} {
		p := filled(5, "abcde", 2)
		has(t, "ahead of Next", p, "abcde", 3, false)
		played(t, p, n, want)
		has(t, "behind Next", p, "abcde", 3-len(want), false)
		played(t, p, math.MaxInt, "cde"[len(want):])
		has(t, "behind the last byte", p, "abcde", 0, false)
		played(t, p, n, "")
		has(t, "behind nothing", p, "abcde", 0, false)
	}
}

// TestNextEvery asks for each number of bytes at each place of buffers of each length.
func TestNextEvery(t *testing.T) {
	for count := range 7 {
		all := string(row('a', count))
		for start := range count + 1 {
			for n := -2; n <= count+2; n++ {
				p := filled(count+1, all, start)
				k := min(max(n, 0), count-start)
				played(t, p, n, all[start:start+k])
				has(t, "behind Next", p, all, count-start-k, false)
				added(t, p, "z", 1)
				has(t, "behind Add", p, all+"z", count+1-start-k, false)
				played(t, p, 99, (all + "z")[start+k:])
				p.Back()
				has(t, "behind Back", p, all+"z", count+1, false)
			}
		}
	}
}

func TestBack(t *testing.T) {
	for _, n := range []int{math.MinInt, -1, 0, 1, 2, 3, 4, 5, math.MaxInt} {
		p := filled(9, "abcd", 0)
		played(t, p, n, "abcd"[:min(max(n, 0), 4)])
		for range 2 { // again, from the first byte
			p.Back()
			has(t, "behind Back", p, "abcd", 4, false)
		}
		played(t, p, 3, "abc")
		added(t, p, "ef", 2)
		p.Back()
		has(t, "behind Add and Back", p, "abcdef", 6, false)
		played(t, p, 5, "abcde")
		has(t, "behind Next", p, "abcdef", 1, false)
	}
}

func TestEmpty(t *testing.T) {
	for _, most := range []int{math.MinInt, -1, 0, 1, math.MaxInt} {
		p := peek.New(most)
		for _, n := range []int{math.MinInt, -1, 0, 1, 2, math.MaxInt} {
			played(t, p, n, "")
			has(t, "behind Next", p, "", 0, false)
			p.Back()
			has(t, "behind Back", p, "", 0, false)
		}
	}
}

func TestApart(t *testing.T) {
	a, b := filled(4, "abc", 1), peek.New(2)
	has(t, "beside another", b, "", 0, false)
	added(t, b, "xyz", 2)
	has(t, "the one", a, "abc", 2, false)
	has(t, "the other", b, "xy", 2, true)
	played(t, b, 9, "xy")
	a.Back()
	has(t, "the one", a, "abc", 3, false)
	has(t, "the other", b, "xy", 0, true)
}

// P6.3

// TestAddMemory hands in bytes with spare room behind them, and writes over all of it.
func TestAddMemory(t *testing.T) {
	for ahead := range 5 { // alone, and behind others
		for count := range 7 {
			whole, all := []byte("abcdefgh"), string(row('u', ahead))
			p := peek.New(5)
			if ahead > 0 { // else what is handed in is the first that is
				p.Add([]byte(all))
			}
			n := p.Add(whole[:count])
			all += "abcdef"[:n]
			for _, more := range []string{"A", "", "BCDEFGH"} {
				n := p.Add([]byte(more))
				all += more[:n]
				p.Next(1)
				if string(whole) != "abcdefgh" {
					t.Errorf("what was handed in is changed: %q", whole)
				}
			}
			spoil(whole)
			p.Back()
			has(t, "what was handed in was written over", p, all, 5, true)
		}
	}
}

func TestAnswersMemory(t *testing.T) {
	for _, most := range []int{5, 9, math.MaxInt} { // without and with room for more
		p := filled(most, "ab", 0)
		added(t, p, "cde", 3)
		for n := -1; n <= 6; n++ {
			p.Back()
			spoil(p.Next(n))
			spoil(p.Next(9))
			spoil(p.Next(9)) // of nothing
			p.Back()
			spoil(p.Bytes())
			has(t, "what was answered was written over", p, "abcde", 5, false)
		}
		one, two, three := p.Bytes(), p.Bytes(), p.Next(4)
		spoil(one)
		if string(two) != "abcde" || string(three) != "abcd" {
			t.Errorf("answers share memory: %q, %q", two, three)
		}
		p.Back()
		again := p.Next(4)
		spoil(three)
		if string(again) != "abcd" {
			t.Errorf("what was played twice shares memory: %q", again)
		}
	}
}

// TestAnswersStay adds behind what was answered, as often as the bytes may have to be laid elsewhere.
func TestAnswersStay(t *testing.T) {
	p, came := peek.New(300), mixed(300)
	var seen, went [][]byte
	for i := range came {
		p.Add(came[i : i+1])
		p.Back()
		seen, went = append(seen, p.Bytes()), append(went, p.Next(300))
	}
	for i := range came {
		if !bytes.Equal(seen[i], came[:i+1]) || !bytes.Equal(went[i], came[:i+1]) {
			t.Fatalf("what was answered of %d bytes is %x and %x by now", i+1, seen[i], went[i])
		}
	}
}

// TestItsOwnBytes hands in what a buffer answered.
func TestItsOwnBytes(t *testing.T) {
	p := filled(8, "abc", 0)
	if got := p.Add(p.Bytes()); got != 3 {
		t.Errorf("Add of its bytes: %d", got)
	}
	has(t, "twice", p, "abcabc", 6, false)
	p.Next(1)
	if got := p.Add(p.Next(3)); got != 2 {
		t.Errorf("Add of what it played: %d", got)
	}
	has(t, "full", p, "abcabcbc", 4, true)
}

// P6.4

// play makes the calls that some bytes tell, of a buffer and of a second opinion: all that came and was taken, and how much of it went.
func play(t *testing.T, most int, calls []byte) {
	p, k := peek.New(most), mostOf(most)
	var came, went []byte
	next, over := byte(0), false
	for i := 0; i+1 < len(calls); i += 2 {
		n := int(int8(calls[i+1]))
		if n == math.MinInt8 {
			n = math.MaxInt
		}
		switch calls[i] % 5 {
		case 0, 1:
			b := row(next, min(max(n, 0), 1<<8))
			took := min(len(b), k-len(came))
			if got := p.Add(b); got != took {
				t.Fatalf("Add of %d beside %d of %d: %d", len(b), len(came), k, got)
			}
			came, over = append(came, b[:took]...), over || took < len(b)
			next += byte(took)
		case 2, 3:
			waits := came[len(went):]
			got := p.Next(n)
			if want := waits[:min(max(n, 0), len(waits))]; !bytes.Equal(got, want) {
				t.Fatalf("Next(%d): %x, not %x", n, got, want)
			}
			went = append(went, got...)
		case 4:
			p.Back()
			went = nil
		}
		has(t, "behind a call", p, string(came), len(came)-len(went), over)
	}
	for range 2 { // all of it, from the first byte on, as often as it is asked for
		p.Back()
		if got := p.Next(math.MaxInt); !bytes.Equal(got, came) {
			t.Fatalf("what is played is %x, what came %x", got, came)
		}
	}
	has(t, "at the end", p, string(came), 0, over)
}

func TestWhatIsPlayedIsWhatCame(t *testing.T) {
	source := rand.New(rand.NewSource(6))
	for _, most := range []int{-3, 0, 1, 2, 3, 5, 8, 63, 64, 100, 127, 128, 300, 5000, math.MaxInt} {
		for range 20 {
			calls := make([]byte, 300)
			source.Read(calls)
			play(t, most, calls)
		}
	}
}

// TestPieces plays what came in pieces of one length in pieces of another, more than once.
func TestPieces(t *testing.T) {
	came := string(mixed(1000))
	for _, in := range []int{1, 7, 64, 999, 1000} {
		for _, out := range []int{1, 3, 65, 999, 1000, 1001} {
			p := peek.New(1000)
			for at := 0; at < 1000; at += in {
				b := came[at:min(at+in, 1000)]
				added(t, p, b, len(b))
			}
			for range 3 {
				for at := 0; at < 1000; at += out {
					played(t, p, out, came[at:min(at+out, 1000)])
				}
				has(t, "played", p, came, 0, false)
				p.Back()
			}
			has(t, "at the end", p, came, 1000, false)
		}
	}
}

func FuzzPeek(f *testing.F) {
	f.Add(3, []byte{0, 4, 2, 2, 4, 0, 2, 9})
	f.Add(0, []byte{0, 1, 2, 1, 4, 1})
	f.Add(-1, []byte{0, 1, 2, 255, 4, 128})
	f.Add(5, []byte{0, 3, 2, 1, 0, 2, 4, 0, 2, 128, 0, 1})
	f.Add(math.MaxInt, []byte{0, 127, 2, 128, 0, 127})
	f.Fuzz(func(t *testing.T, most int, calls []byte) { play(t, most, calls[:min(len(calls), 200)]) })
}
