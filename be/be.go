// Package be is layer 1: numbers as bytes, the highest byte first, checked: see shared/doc/01-be.md.
package be

// The ends of sizes: a number has so many bytes.
const (
	minSize = 1
	maxSize = 4
)

// Put answers b, and behind it the bytes of n.
func Put(b []byte, n, size int) []byte {
	k := clamp(size)
	out := grown(b, k)
	lay(out[len(b):], n)
	return out
}

// Vec answers b, and behind it the bytes of how many bytes x has, and x; or b and false, if the size can't tell so many.
func Vec(b []byte, size int, x []byte) ([]byte, bool) {
	k := clamp(size)
	if !tells(k, len(x)) {
		return grown(b, 0), false
	}
	out := grown(b, k+len(x))
	head := len(b) + k
	lay(out[len(b):head], len(x))
	copy(out[head:], x)
	return out, true
}

// clamp answers the size that counts.
func clamp(size int) int {
	if size < minSize {
		return minSize
	}
	if size > maxSize {
		return maxSize
	}
	return size
}

// tells says whether n, which is not below 0, is told whole by so many bytes.
func tells(size, n int) bool {
	return n>>(8*uint(size)) == 0
}

// grown answers b in new memory with more bytes behind it: appending would write into b's spare room.
func grown(b []byte, more int) []byte {
	out := make([]byte, len(b)+more)
	copy(out, b)
	return out
}

// lay fills p with the bytes of n; the conversion to a byte is what makes n modulo, below 0 too.
func lay(p []byte, n int) {
	for i := len(p) - 1; i >= 0; i-- {
		p[i] = byte(n)
		n >>= 8
	}
}

// Reader reads numbers and bytes, one behind the other, till something is missing.
type Reader struct {
	rest []byte // what is not read yet; none, if bad
	bad  bool
}

// Read answers a reader of b, at its beginning.
func Read(b []byte) *Reader {
	return &Reader{rest: grown(b, 0)}
}

// Num answers the number of the next bytes; 0, if they are not there.
func (r *Reader) Num(size int) int {
	n := 0
	for _, c := range r.Take(clamp(size)) {
		n = n<<8 | int(c)
	}
	return n
}

// Take answers the next n bytes; none, if they are not there.
func (r *Reader) Take(n int) []byte {
	if r.bad || n < 0 || n > len(r.rest) {
		r.fail()
		return nil
	}
	out := grown(r.rest[:n], 0)
	r.rest = r.rest[n:]
	return out
}

// Vec answers as many bytes as the number ahead of them tells; none, if they are not there.
func (r *Reader) Vec(size int) []byte {
	return r.Take(r.Num(size)) // behind a Num that failed, Take answers none as well
}

// fail ends the reading: what is left is let go, since nobody may read it any more.
func (r *Reader) fail() {
	r.bad = true
	r.rest = nil
}

// Left answers how many bytes are left to be read.
func (r *Reader) Left() int { return len(r.rest) }

// Bad says whether something was missing.
func (r *Reader) Bad() bool { return r.bad }

// Done says whether all was read, and nothing was missing.
func (r *Reader) Done() bool { return !r.bad && len(r.rest) == 0 }
