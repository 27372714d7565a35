package prefix_test

import (
	"math"
	"strings"
	"testing"
	"unsafe"

	"nuncio/api"
	"nuncio/prefix"
)

// sized is a number of bits as it is handed in, and as it counts.
type sized struct{ given, counts int }

// sizes are numbers of bits, those that may be and others.
func sizes() []sized {
	all := []sized{{0, 1}, {-1, 1}, {-8, 1}, {-255, 1}, {math.MinInt32, 1}, {math.MinInt + 1, 1}, {math.MinInt, 1},
		{9, 8}, {10, 8}, {16, 8}, {64, 8}, {65, 8}, {256, 8}, {math.MaxInt32, 8}, {math.MaxInt - 1, 8}, {math.MaxInt, 8}}
	for bits := 1; bits <= 8; bits++ {
		all = append(all, sized{bits, bits})
	}
	return all
}

// most is what the bits of a prefix are when all are 1.
func most(bits int) uint64 { return []uint64{0, 1, 3, 7, 15, 31, 63, 127, 255}[bits] }

// edges are numbers at which something changes, for so many bits.
func edges(bits int) []uint64 {
	var all []uint64
	for _, n := range []uint64{0, 127, 128, 255, 16383, 16384, 1<<21 - 1, 1 << 21, 1<<28 - 1, 1 << 28, 1<<32 - 1, 1<<35 - 1, 1<<42 - 1, 1<<49 - 1, 1<<56 - 1, 1<<63 - 1, 1 << 63} {
		all = append(all, n-2, n-1, n, n+1, n+2, n+most(bits)-1, n+most(bits), n+most(bits)+1)
	}
	return append(all, math.MaxUint64-most(bits), math.MaxUint64)
}

// puts fails if a number behind nothing is other bytes than these.
func puts(t *testing.T, first byte, bits int, n uint64, want string) {
	t.Helper()
	if got := string(prefix.Put(nil, first, bits, n)); got != want {
		t.Errorf("Put(nil, %#x, %d, %d) = % x, want % x", first, bits, n, got, want)
	}
}

// gets fails if there stands another number, or another place is behind it.
func gets(t *testing.T, s string, at, bits int, want uint64, behind int) {
	t.Helper()
	if n, next, e := prefix.Get(s, at, bits); n != want || next != behind || e != api.OK {
		t.Errorf("Get(% x, %d, %d) = %d, %d, %d, want %d, %d", s, at, bits, n, next, e, want, behind)
	}
}

// wrong fails if the answer is another one than an error and zeros.
func wrong(t *testing.T, s string, at, bits int, want api.Errno) {
	t.Helper()
	if n, next, e := prefix.Get(s, at, bits); n != 0 || next != 0 || e != want {
		t.Errorf("Get(% x, %d, %d) = %d, %d, %d, want the error %d", s, at, bits, n, next, e, want)
	}
}

// texts calls with every text of up to so many signs of an alphabet.
func texts(alphabet string, size int, call func(s string)) {
	call("")
	if size > 0 {
		for i := range len(alphabet) {
			texts(alphabet, size-1, func(s string) { call(alphabet[i:i+1] + s) })
		}
	}
}

// apart: have two lists no memory in common, their spare room with it?
func apart(a, b []byte) bool {
	if cap(a) == 0 || cap(b) == 0 {
		return true
	}
	x, y := uintptr(unsafe.Pointer(unsafe.SliceData(a))), uintptr(unsafe.Pointer(unsafe.SliceData(b)))
	return x+uintptr(cap(a)) <= y || y+uintptr(cap(b)) <= x
}

// zeros are bytes behind the first one that tell of nothing but a further one.
func zeros(n int) string { return strings.Repeat("\x80", n) }
