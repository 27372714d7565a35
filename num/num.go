// Package num is layer 1: numbers as bytes, sums that stay at their greatest, and a reader that goes through a text.
package num

import (
	"math"
	"math/bits"
	"strings"

	"nuncio/api"
)

// maxSize: the bytes of the greatest number.
const maxSize = 8

// Put: bytes with a number behind them.
func Put(b []byte, n uint64, size int) []byte {
	size = min(max(size, 0), maxSize)
	// append could write into b's spare room, which isn't ours.
	out := make([]byte, len(b)+size)
	copy(out, b)
	for i := len(out) - 1; i >= len(b); i-- {
		out[i] = byte(n)
		n >>= 8
	}
	return out
}

// Get: the number that stands somewhere.
func Get(s string, at, size int) (uint64, bool) {
	if size < 1 || size > maxSize || !holds(s, at, size) {
		return 0, false
	}
	var n uint64
	for i := range size {
		n = n<<8 | uint64(s[at+i])
	}
	return n, true
}

// Part: the bytes that stand somewhere.
func Part(s string, at, size int) (string, bool) {
	if !holds(s, at, size) {
		return "", false
	}
	// A piece of s would share its memory, and keep all of it alive.
	return strings.Clone(s[at : at+size]), true
}

// holds: has s that many bytes from the place on? The place is taken off the length, because at+size could wrap round.
func holds(s string, at, size int) bool {
	return at >= 0 && size >= 0 && size <= len(s)-at
}

// Add32: a sum that stays at its greatest.
func Add32(a, b uint32) uint32 {
	if a > math.MaxUint32-b {
		return math.MaxUint32
	}
	return a + b
}

// Add64: likewise.
func Add64(a, b uint64) uint64 {
	if a > math.MaxUint64-b {
		return math.MaxUint64
	}
	return a + b
}

// Mul64: a product that does.
func Mul64(a, b uint64) uint64 {
	high, low := bits.Mul64(a, b)
	if high != 0 {
		return math.MaxUint64
	}
	return low
}

// Reader goes through a text. It gives up by a panic whose value is api.ErrShort: who uses it recovers that once, where its own call began, and needs no check at each number.
type Reader struct {
	text string
	at   int
}

// New: a reader of a text.
func New(s string) *Reader { return &Reader{text: s} }

// At: the place.
func (r *Reader) At() int { return r.at }

// Left: how many bytes are ahead.
func (r *Reader) Left() int { return len(r.text) - r.at }

// Num: the next number.
func (r *Reader) Num(size int) uint64 {
	n, ok := Get(r.text, r.at, size)
	if !ok {
		panic(api.ErrShort)
	}
	r.at += size
	return n
}

// Text: the next bytes.
func (r *Reader) Text(size int) string {
	s, ok := Part(r.text, r.at, size)
	if !ok {
		panic(api.ErrShort)
	}
	r.at += size
	return s
}
