package prefix_test

import (
	"math"
	"testing"

	"nuncio/api"
	"nuncio/prefix"
)

// P9.2: Get.

func TestGetOfTheExamples(t *testing.T) {
	gets(t, "\x0a", 0, 5, 10, 1)
	gets(t, "\x1f\x9a\x0a", 0, 5, 1337, 3)
	gets(t, "\x2a", 0, 8, 42, 1)
}

func TestGetAtPlaces(t *testing.T) {
	const s = "\x1f\x9a\x0a\x0a\x1f\x00\xea\x1f"
	gets(t, s, 0, 5, 1337, 3)
	gets(t, s, 1, 5, 26, 2)
	gets(t, s, 2, 5, 10, 3)
	gets(t, s, 3, 5, 10, 4)
	gets(t, s, 4, 5, 31, 6)
	gets(t, s, 5, 5, 0, 6)
	gets(t, s, 6, 5, 10, 7)
	wrong(t, s, 7, 5, api.ErrShort)
	gets(t, s, 7, 6, 31, 8)
	for _, at := range []int{8, 9, 1000, math.MaxInt32, math.MaxInt - 8, math.MaxInt - 1, math.MaxInt, -1, -2, -8, math.MinInt32, math.MinInt + 1, math.MinInt} {
		for _, size := range sizes() {
			wrong(t, s, at, size.given, api.ErrShort)
			wrong(t, "", at, size.given, api.ErrShort)
		}
	}
	for _, size := range sizes() {
		wrong(t, "", 0, size.given, api.ErrShort)
		wrong(t, "", 1, size.given, api.ErrShort)
		wrong(t, "\x00", 1, size.given, api.ErrShort)
		gets(t, "\x00", 0, size.given, 0, 1)
	}
}

func TestGetBelowThePrefix(t *testing.T) {
	for bits := 1; bits <= 8; bits++ {
		for n := range most(bits) {
			one := string([]byte{byte(n)})
			gets(t, one, 0, bits, n, 1)
			gets(t, one+"\xff", 0, bits, n, 1)
			gets(t, "\xff\xff"+one+"\x00", 2, bits, n, 3)
		}
	}
}

func TestGetWhateverTheOtherBits(t *testing.T) {
	for bits := 1; bits <= 8; bits++ {
		for first := range 256 {
			s := string([]byte{byte(first)}) + "\x85\x02"
			low := uint64(first) % (most(bits) + 1)
			if low < most(bits) {
				gets(t, s, 0, bits, low, 1)
			} else {
				gets(t, s, 0, bits, most(bits)+2*128+5, 3)
				wrong(t, s[:2], 0, bits, api.ErrShort)
				wrong(t, s[:1], 0, bits, api.ErrShort)
			}
		}
	}
}

func TestGetOfBitsThatMayNotBe(t *testing.T) {
	for _, size := range sizes() {
		for _, s := range []string{"\x00", "\x01", "\xfe", "\xff", "\x01\x00", "\xff\x00", "\xff\x7f", "\xfe\x7f", "\xff\x80\x01", "\xff\xff\xff\xff\xff\x0f", "\xff" + zeros(5)} {
			n, next, e := prefix.Get(s, 0, size.counts)
			if e != api.OK {
				wrong(t, s, 0, size.given, e)
			} else {
				gets(t, s, 0, size.given, n, next)
			}
		}
	}
	gets(t, "\xfe\x05", 0, 0, 0, 1)
	gets(t, "\xff\x05", 0, math.MinInt, 6, 2)
	gets(t, "\xfe\x05", 0, 9, 254, 1)
	gets(t, "\xff\x05", 0, math.MaxInt, 260, 2)
}

func TestGetMoreBytesThanNeedBe(t *testing.T) {
	for bits := 1; bits <= 8; bits++ {
		all := string([]byte{byte(most(bits))})
		for behind := 1; behind <= 5; behind++ {
			s := all + zeros(behind-1) + "\x00"
			gets(t, s, 0, bits, most(bits), 1+behind)
			gets(t, s+"\x00", 0, bits, most(bits), 1+behind)
			gets(t, s+"\xff", 0, bits, most(bits), 1+behind)
			gets(t, "z"+s, 1, bits, most(bits), 2+behind)
		}
		gets(t, all+"\xff\x80\x80\x80\x00", 0, bits, most(bits)+127, 6)
		gets(t, all+"\xff\xff\x80\x80\x00", 0, bits, most(bits)+16383, 6)
		gets(t, all+"\xff\xff\xff\x80\x00", 0, bits, most(bits)+1<<21-1, 6)
		gets(t, all+"\xff\xff\xff\xff\x00", 0, bits, most(bits)+1<<28-1, 6)
		gets(t, all+"\x80\x80\x80\x80\x01", 0, bits, most(bits)+1<<28, 6)
	}
}

func TestGetASixthByte(t *testing.T) {
	for bits := 1; bits <= 8; bits++ {
		all := string([]byte{byte(most(bits))})
		for _, five := range []string{zeros(5), "\xff\xff\xff\xff\x80", "\x80\x80\x80\x80\x81", "\x80\x80\x80\x80\x8f", "\x80\x80\x80\x80\x90", "\xff\xff\xff\xff\xff"} {
			for _, sixth := range []string{"", "\x00", "\x01", "\x7f", "\x80", "\x80\x00", "\xff", "\xff\xff\xff\xff\xff\xff\x01"} {
				wrong(t, all+five+sixth, 0, bits, api.ErrInteger)
				wrong(t, "z"+all+five+sixth, 1, bits, api.ErrInteger)
			}
		}
	}
}

func TestGetBytesLacking(t *testing.T) {
	for bits := 1; bits <= 8; bits++ {
		all := string([]byte{byte(most(bits))})
		for _, fill := range []string{"\x80", "\x81", "\xfe", "\xff"} {
			s := all
			for range 5 {
				wrong(t, s, 0, bits, api.ErrShort)
				wrong(t, "\x00"+s, 1, bits, api.ErrShort)
				s += fill
			}
			wrong(t, s, 0, bits, api.ErrInteger)
		}
	}
}

func TestGetTheGreatest(t *testing.T) {
	for bits := 1; bits <= 8; bits++ {
		s := string(prefix.Put(nil, 0, bits, math.MaxUint32))
		if len(s) != 6 {
			t.Fatalf("%d bits: % x", bits, s)
		}
		gets(t, s, 0, bits, math.MaxUint32, 6)
		gets(t, s+"\xff", 0, bits, math.MaxUint32, 6)
		// In more bytes there is a sixth one behind the first.
		wrong(t, s[:5]+"\x8f\x00", 0, bits, api.ErrInteger)
		wrong(t, s[:5]+"\x8f", 0, bits, api.ErrInteger)
		wrong(t, s[:5], 0, bits, api.ErrShort)
		wrong(t, string(prefix.Put(nil, 0, bits, 1<<32)), 0, bits, api.ErrInteger)
		for past := range most(bits) {
			gets(t, string(prefix.Put(nil, 0, bits, math.MaxUint32-past)), 0, bits, math.MaxUint32-past, 6)
			wrong(t, string(prefix.Put(nil, 0, bits, math.MaxUint32+1+past)), 0, bits, api.ErrInteger)
		}
		for _, n := range []uint64{1<<32 + 1<<31, 1 << 33, 1 << 34, 1<<35 - 1, 1 << 35, 1<<36 - 1, 1 << 40, 1 << 42, 1 << 56, 1 << 63, math.MaxUint64 - most(bits)} {
			wrong(t, string(prefix.Put(nil, 0, bits, n)), 0, bits, api.ErrInteger)
			wrong(t, string(prefix.Put(nil, 0, bits, most(bits)+n)), 0, bits, api.ErrInteger)
		}
	}
}

func TestGetEachFifthByte(t *testing.T) {
	for bits := 1; bits <= 8; bits++ {
		all := string([]byte{byte(most(bits))})
		for fifth := range 256 {
			s, full := all+"\x80\x80\x80\x80"+string([]byte{byte(fifth)}), all+"\xff\xff\xff\xff"+string([]byte{byte(fifth)})
			if fifth < 16 {
				gets(t, s, 0, bits, most(bits)+uint64(fifth)<<28, 6)
			} else {
				wrong(t, s, 0, bits, api.ErrInteger)
			}
			if fifth < 15 {
				gets(t, full, 0, bits, most(bits)+uint64(fifth)<<28+1<<28-1, 6)
			} else {
				wrong(t, full, 0, bits, api.ErrInteger)
			}
		}
	}
}

func TestGetAsBytesAreLackingAndTheNumberIsTooGreat(t *testing.T) {
	for bits := 1; bits <= 8; bits++ {
		all := string([]byte{byte(most(bits))})
		// Bytes are lacking, and the number is above 2^32 - 1 only with a fifth one.
		wrong(t, all+"\xff\xff\xff\xff", 0, bits, api.ErrShort)
		// With the fifth it is, and a sixth is told of that isn't there.
		wrong(t, all+"\xff\xff\xff\xff\xff", 0, bits, api.ErrInteger)
		wrong(t, all+"\xff\xff\xff\xff\x90", 0, bits, api.ErrInteger)
		// The place is wrong, and what stands elsewhere too.
		wrong(t, all+"\xff\xff\xff\xff\xff", -1, bits, api.ErrShort)
		wrong(t, all+"\xff\xff\xff\xff\xff", 6, bits, api.ErrShort)
		wrong(t, all+"\xff\xff\xff\xff\xff", 7, bits, api.ErrShort)
	}
}
