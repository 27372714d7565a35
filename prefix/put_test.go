package prefix_test

import (
	"bytes"
	"math"
	"testing"

	"nuncio/prefix"
)

// P9.1: Put.

func TestPutOfTheExamples(t *testing.T) {
	puts(t, 0, 5, 10, "\x0a")
	puts(t, 0, 5, 1337, "\x1f\x9a\x0a")
	puts(t, 0, 8, 42, "\x2a")
}

func TestPutBelowThePrefix(t *testing.T) {
	for bits := 1; bits <= 8; bits++ {
		for n := range most(bits) {
			puts(t, 0, bits, n, string([]byte{byte(n)}))
		}
	}
}

func TestPutBehindThePrefix(t *testing.T) {
	for bits := 1; bits <= 8; bits++ {
		all := string([]byte{byte(most(bits))})
		for _, c := range []struct {
			n    uint64
			want string
		}{
			{0, "\x00"}, {1, "\x01"}, {126, "\x7e"}, {127, "\x7f"}, {128, "\x80\x01"}, {129, "\x81\x01"}, {255, "\xff\x01"}, {256, "\x80\x02"},
			{16383, "\xff\x7f"}, {16384, "\x80\x80\x01"}, {16385, "\x81\x80\x01"}, {1<<21 - 1, "\xff\xff\x7f"}, {1 << 21, "\x80\x80\x80\x01"},
			{1<<28 - 1, "\xff\xff\xff\x7f"}, {1 << 28, "\x80\x80\x80\x80\x01"}, {1<<32 - 1, "\xff\xff\xff\xff\x0f"}, {1 << 32, "\x80\x80\x80\x80\x10"},
			{1<<35 - 1, "\xff\xff\xff\xff\x7f"}, {1 << 35, "\x80\x80\x80\x80\x80\x01"}, {1<<42 - 1, "\xff\xff\xff\xff\xff\x7f"}, {1 << 42, zeros(6) + "\x01"},
			{1<<49 - 1, "\xff\xff\xff\xff\xff\xff\x7f"}, {1 << 49, zeros(7) + "\x01"}, {1<<56 - 1, "\xff\xff\xff\xff\xff\xff\xff\x7f"}, {1 << 56, zeros(8) + "\x01"},
			{1<<63 - 1, "\xff\xff\xff\xff\xff\xff\xff\xff\x7f"}, {1 << 63, zeros(9) + "\x01"},
		} {
			puts(t, 0, bits, most(bits)+c.n, all+c.want)
		}
	}
}

func TestPutGreatNumbers(t *testing.T) {
	for _, c := range []struct {
		bits int
		n    uint64
		want string
	}{
		{1, math.MaxUint32, "\x01\xfe\xff\xff\xff\x0f"}, {2, math.MaxUint32, "\x03\xfc\xff\xff\xff\x0f"}, {3, math.MaxUint32, "\x07\xf8\xff\xff\xff\x0f"}, {4, math.MaxUint32, "\x0f\xf0\xff\xff\xff\x0f"},
		{5, math.MaxUint32, "\x1f\xe0\xff\xff\xff\x0f"}, {6, math.MaxUint32, "\x3f\xc0\xff\xff\xff\x0f"}, {7, math.MaxUint32, "\x7f\x80\xff\xff\xff\x0f"}, {8, math.MaxUint32, "\xff\x80\xfe\xff\xff\x0f"},
		{1, 1 << 32, "\x01\xff\xff\xff\xff\x0f"}, {5, 1 << 32, "\x1f\xe1\xff\xff\xff\x0f"}, {7, 1 << 32, "\x7f\x81\xff\xff\xff\x0f"}, {8, 1 << 32, "\xff\x81\xfe\xff\xff\x0f"},
		{1, math.MaxUint64, "\x01\xfe\xff\xff\xff\xff\xff\xff\xff\xff\x01"}, {5, math.MaxUint64, "\x1f\xe0\xff\xff\xff\xff\xff\xff\xff\xff\x01"},
		{7, math.MaxUint64, "\x7f\x80\xff\xff\xff\xff\xff\xff\xff\xff\x01"}, {8, math.MaxUint64, "\xff\x80\xfe\xff\xff\xff\xff\xff\xff\xff\x01"},
	} {
		puts(t, 0, c.bits, c.n, c.want)
	}
}

func TestPutKeepsTheOtherBits(t *testing.T) {
	for _, c := range []struct {
		first byte
		bits  int
		n     uint64
		want  string
	}{
		{0xe0, 5, 10, "\xea"}, {0xe0, 5, 31, "\xff\x00"}, {0xff, 5, 10, "\xea"}, {0xff, 5, 31, "\xff\x00"}, {0x1f, 5, 10, "\x0a"}, {0x1f, 5, 31, "\x1f\x00"},
		{0x80, 7, 2, "\x82"}, {0x80, 7, 127, "\xff\x00"}, {0x40, 6, 2, "\x42"}, {0x40, 6, 63, "\x7f\x00"}, {0x20, 5, 2, "\x22"}, {0x10, 4, 2, "\x12"}, {0x10, 4, 15, "\x1f\x00"},
		{0xff, 8, 0, "\x00"}, {0xff, 8, 42, "\x2a"}, {0xff, 8, 255, "\xff\x00"}, {0xfe, 1, 0, "\xfe"}, {0xff, 1, 0, "\xfe"}, {0x01, 1, 0, "\x00"}, {0x54, 1, 1, "\x55\x00"}, {0xaa, 3, 5, "\xad"},
	} {
		puts(t, c.first, c.bits, c.n, c.want)
	}
	for bits := 1; bits <= 8; bits++ {
		for first := range 256 {
			for _, n := range edges(bits) {
				bare, got := prefix.Put(nil, 0, bits, n), prefix.Put(nil, byte(first), bits, n)
				bare[0] += byte(first - first%int(most(bits)+1))
				if !bytes.Equal(got, bare) {
					t.Errorf("Put(nil, %#x, %d, %d) = % x, want % x", first, bits, n, got, bare)
				}
			}
		}
	}
}

func TestPutOfBitsThatMayNotBe(t *testing.T) {
	for _, size := range sizes() {
		for _, n := range edges(size.counts) {
			for _, first := range []byte{0, 0xff, 0xfe, 0x55} {
				puts(t, first, size.given, n, string(prefix.Put(nil, first, size.counts, n)))
			}
		}
	}
	puts(t, 0xff, 0, 0, "\xfe")
	puts(t, 0xff, -1, 1, "\xff\x00")
	puts(t, 0, math.MinInt, 2, "\x01\x01")
	puts(t, 0xff, 9, 7, "\x07")
	puts(t, 0xff, math.MaxInt, 255, "\xff\x00")
	puts(t, 0, math.MaxInt, 254, "\xfe")
}

func TestPutStandsBehind(t *testing.T) {
	for _, b := range []string{"", "a", "ab", "\x1f", "\xff\x80", "\x00", string(make([]byte, 300))} {
		for bits := 1; bits <= 8; bits++ {
			for _, n := range edges(bits) {
				alone := string(prefix.Put(nil, 0xa5, bits, n))
				for _, given := range [][]byte{[]byte(b), append(make([]byte, 0, len(b)+64), b...), append(make([]byte, 0, len(b)+1), b...), bytes.Clone([]byte(b))} {
					if got := string(prefix.Put(given, 0xa5, bits, n)); got != b+alone {
						t.Errorf("Put(% x, 0xa5, %d, %d) = % x, want % x behind it", b, bits, n, got, alone)
					}
				}
			}
		}
	}
}

func TestPutLeavesWhatWasHandedIn(t *testing.T) {
	const whole = "abcdefghijklmnopqrstuvwxyz"
	for _, size := range sizes() {
		for _, n := range edges(size.counts) {
			for _, long := range []int{0, 1, 2, 5, len(whole) - 1, len(whole)} {
				room := []byte(whole)
				b := room[:long]
				got := prefix.Put(b, 0xff, size.given, n)
				if string(room) != whole || len(b) != long {
					t.Errorf("bits %d, number %d, %d bytes: left are % x", size.given, n, long, room)
				}
				if !apart(got, room) {
					t.Errorf("bits %d, number %d, %d bytes: the answer is in the argument's memory", size.given, n, long)
				}
			}
		}
	}
}

func TestPutAnswersApart(t *testing.T) {
	room := make([]byte, 3, 64)
	for _, b := range [][]byte{nil, {}, {1}, room[:0], room} {
		for _, n := range []uint64{0, 30, 31, 200, math.MaxUint64} {
			x, y := prefix.Put(b, 0, 5, n), prefix.Put(b, 0, 5, n)
			if !apart(x, y) {
				t.Errorf("number %d behind %d bytes: two answers in one memory", n, len(b))
			}
		}
	}
	x, y := prefix.Put(room, 0, 5, 1), prefix.Put(room, 0, 5, 2)
	if string(x) != "\x00\x00\x00\x01" || string(y) != "\x00\x00\x00\x02" {
		t.Errorf("% x and % x", x, y)
	}
}
