package num

import (
	"bytes"
	"math"
	"testing"

	"nuncio/api"
)

const eight uint64 = 0x0102030405060708

// P1.1: Put, Get, Part.

func TestPutLowestBytesBigEndian(t *testing.T) {
	for _, c := range []struct {
		b    []byte
		n    uint64
		size int
		want string
	}{
		{nil, 258, 3, "\x00\x01\x02"},
		{[]byte{}, 0, 1, "\x00"},
		{[]byte("ab"), eight, 1, "ab\x08"},
		{[]byte("ab"), eight, 2, "ab\x07\x08"},
		{[]byte("ab"), eight, 3, "ab\x06\x07\x08"},
		{[]byte("ab"), eight, 4, "ab\x05\x06\x07\x08"},
		{[]byte("ab"), eight, 5, "ab\x04\x05\x06\x07\x08"},
		{[]byte("ab"), eight, 6, "ab\x03\x04\x05\x06\x07\x08"},
		{[]byte("ab"), eight, 7, "ab\x02\x03\x04\x05\x06\x07\x08"},
		{[]byte("ab"), eight, 8, "ab\x01\x02\x03\x04\x05\x06\x07\x08"},
		{nil, math.MaxUint64, 8, "\xff\xff\xff\xff\xff\xff\xff\xff"},
		{nil, math.MaxUint64, 1, "\xff"},
		{nil, 256, 1, "\x00"},
	} {
		if got := string(Put(c.b, c.n, c.size)); got != c.want {
			t.Errorf("Put(%q, %d, %d) = %q, want %q", c.b, c.n, c.size, got, c.want)
		}
	}
}

func TestPutSizesOutOfRange(t *testing.T) {
	for _, size := range []int{0, -1, -8, math.MinInt} {
		if got := Put([]byte("ab"), eight, size); string(got) != "ab" {
			t.Errorf("size %d: %q", size, got)
		}
		if got := Put(nil, eight, size); len(got) != 0 {
			t.Errorf("size %d on nothing: %q", size, got)
		}
	}
	for _, size := range []int{9, 10, 16, math.MaxInt} {
		if got := Put([]byte("ab"), eight, size); string(got) != "ab\x01\x02\x03\x04\x05\x06\x07\x08" {
			t.Errorf("size %d: %q", size, got)
		}
	}
}

func TestPutLeavesWhatWasHandedIn(t *testing.T) {
	for size := -1; size <= 9; size++ {
		room := []byte("abcdefghijklmnop")
		got := Put(room[:2], eight, size)
		if string(room) != "abcdefghijklmnop" {
			t.Errorf("size %d: the spare room was written: %q", size, room)
		}
		got[0] = 'X'
		if room[0] != 'a' {
			t.Errorf("size %d: the answer shares the argument's memory", size)
		}
	}
}

func TestPutAnswersApart(t *testing.T) {
	b := make([]byte, 1, 32)
	x, y := Put(b, 1, 2), Put(b, 2, 2)
	if !bytes.Equal(x, []byte{0, 0, 1}) || !bytes.Equal(y, []byte{0, 0, 2}) {
		t.Errorf("%v and %v", x, y)
	}
}

func TestGet(t *testing.T) {
	s := "\x01\x02\x03\x04\x05\x06\x07\x08\xff"
	for _, c := range []struct {
		at, size int
		want     uint64
	}{
		{0, 1, 0x01}, {0, 2, 0x0102}, {0, 3, 0x010203}, {0, 4, 0x01020304},
		{0, 5, 0x0102030405}, {0, 6, 0x010203040506}, {0, 7, 0x01020304050607}, {0, 8, eight},
		{1, 8, 0x02030405060708ff}, {3, 2, 0x0405}, {7, 2, 0x08ff}, {8, 1, 0xff},
	} {
		if n, ok := Get(s, c.at, c.size); n != c.want || !ok {
			t.Errorf("Get at %d of %d: %x, %v", c.at, c.size, n, ok)
		}
	}
	if n, ok := Get("\xff\xff\xff\xff\xff\xff\xff\xff", 0, 8); n != math.MaxUint64 || !ok {
		t.Errorf("the greatest: %x, %v", n, ok)
	}
	if n, ok := Get("\x00", 0, 1); n != 0 || !ok {
		t.Errorf("a zero: %d, %v", n, ok)
	}
}

func TestGetNothing(t *testing.T) {
	ten := "\x01\x02\x03\x04\x05\x06\x07\x08\x09\x0a"
	for _, c := range []struct {
		s        string
		at, size int
	}{
		{"\x01\x02", 1, 2}, {"\x01\x02", 2, 1}, {"\x01\x02", 3, 1}, {"", 0, 1}, {"", 1, 1},
		{ten, 0, 0}, {ten, 0, -1}, {ten, 5, -1}, {ten, 0, math.MinInt}, {ten, math.MaxInt, math.MinInt},
		{ten, 0, 9}, {ten, 0, 10}, {ten, 0, math.MaxInt}, {ten, 1, math.MaxInt},
		{ten, -1, 1}, {ten, -1, 8}, {ten, math.MinInt, 1}, {ten, math.MinInt, 8},
		{ten, 3, 8}, {ten, 10, 1}, {ten, 11, 1}, {ten, math.MaxInt, 1}, {ten, math.MaxInt, 8},
		{ten, 10, 0}, {ten, 11, 0},
	} {
		if n, ok := Get(c.s, c.at, c.size); n != 0 || ok {
			t.Errorf("Get(%q, %d, %d) = %d, %v", c.s, c.at, c.size, n, ok)
		}
	}
}

func TestPart(t *testing.T) {
	for _, c := range []struct {
		s        string
		at, size int
		want     string
	}{
		{"abc", 0, 3, "abc"}, {"abc", 0, 1, "a"}, {"abc", 1, 1, "b"}, {"abc", 1, 2, "bc"}, {"abc", 2, 1, "c"},
		{"abc", 0, 0, ""}, {"abc", 2, 0, ""}, {"abc", 3, 0, ""}, {"", 0, 0, ""},
		{"\x00\xff\x80", 1, 2, "\xff\x80"}, {"0123456789abcdef", 2, 12, "23456789abcd"},
	} {
		if s, ok := Part(c.s, c.at, c.size); s != c.want || !ok {
			t.Errorf("Part(%q, %d, %d) = %q, %v", c.s, c.at, c.size, s, ok)
		}
	}
}

func TestPartNothing(t *testing.T) {
	for _, c := range []struct {
		s        string
		at, size int
	}{
		{"abc", -1, 0}, {"abc", -1, 1}, {"abc", -1, 2}, {"abc", math.MinInt, 0}, {"abc", math.MinInt, math.MinInt},
		{"abc", 0, -1}, {"abc", 3, -1}, {"abc", 2, math.MinInt}, {"abc", math.MaxInt, math.MinInt},
		{"abc", 4, 0}, {"abc", 4, -1}, {"abc", math.MaxInt, 0}, {"abc", math.MaxInt, math.MaxInt}, {"", 1, 0},
		{"abc", 0, 4}, {"abc", 1, 3}, {"abc", 3, 1}, {"", 0, 1}, {"abc", 0, math.MaxInt}, {"abc", 1, math.MaxInt},
	} {
		if s, ok := Part(c.s, c.at, c.size); s != "" || ok {
			t.Errorf("Part(%q, %d, %d) = %q, %v", c.s, c.at, c.size, s, ok)
		}
	}
}

// part keeps Part's answer from being left away by the compiler.
var part string

func TestPartIsNewMemory(t *testing.T) {
	if testing.AllocsPerRun(10, func() { part, _ = Part("some text of bytes", 5, 4) }) < 1 {
		t.Error("the answer is a piece of the argument")
	}
}

// P1.2: sums and products that stay at their greatest.

func TestAdd32(t *testing.T) {
	const most = math.MaxUint32
	for _, c := range [][3]uint32{
		{0, 0, 0}, {1, 2, 3}, {most, 0, most}, {most - 1, 1, most}, {most - 1, 0, most - 1}, {most - 5, 4, most - 1},
		{most, 1, most}, {most - 1, 2, most}, {most, most, most}, {1 << 31, 1 << 31, most}, {1 << 31, 1<<31 - 1, most},
		{1 << 30, 1 << 30, 1 << 31},
	} {
		if Add32(c[0], c[1]) != c[2] || Add32(c[1], c[0]) != c[2] {
			t.Errorf("%d and %d: %d, and turned round %d", c[0], c[1], Add32(c[0], c[1]), Add32(c[1], c[0]))
		}
	}
}

func TestAdd64(t *testing.T) {
	const most = math.MaxUint64
	for _, c := range [][3]uint64{
		{0, 0, 0}, {1, 2, 3}, {most, 0, most}, {most - 1, 1, most}, {most - 1, 0, most - 1}, {most - 5, 4, most - 1},
		{most, 1, most}, {most - 1, 2, most}, {most, most, most}, {1 << 63, 1 << 63, most}, {1 << 63, 1<<63 - 1, most},
		{math.MaxUint32, 1, 1 << 32},
	} {
		if Add64(c[0], c[1]) != c[2] || Add64(c[1], c[0]) != c[2] {
			t.Errorf("%d and %d: %d, and turned round %d", c[0], c[1], Add64(c[0], c[1]), Add64(c[1], c[0]))
		}
	}
}

func TestMul64(t *testing.T) {
	const most = math.MaxUint64
	for _, c := range [][3]uint64{
		{0, 0, 0}, {0, 7, 0}, {0, most, 0}, {1, most, most}, {6, 7, 42},
		{1<<32 - 1, 1<<32 + 1, most}, {1 << 32, 1<<32 - 1, most - 1<<32 + 1}, {2, 1<<63 - 1, most - 1}, {2, 1 << 62, 1 << 63},
		{1 << 32, 1 << 32, most}, {2, 1 << 63, most}, {3, 1 << 63, most}, {2, most, most}, {most, most, most},
		{1<<32 + 1, 1<<32 + 1, most}, {3, most/3 + 1, most}, {3, most / 3, most},
	} {
		if Mul64(c[0], c[1]) != c[2] || Mul64(c[1], c[0]) != c[2] {
			t.Errorf("%d and %d: %d, and turned round %d", c[0], c[1], Mul64(c[0], c[1]), Mul64(c[1], c[0]))
		}
	}
}

// P1.3: the reader.

func place(t *testing.T, r *Reader, at, left int) {
	t.Helper()
	if r.At() != at || r.Left() != left {
		t.Errorf("at %d, %d ahead; want %d and %d", r.At(), r.Left(), at, left)
	}
}

func TestReaderGoesThrough(t *testing.T) {
	r := New("\x01\x02abc\xff\x01\x02\x03\x04\x05\x06\x07\x08")
	place(t, r, 0, 14)
	if n := r.Num(2); n != 258 {
		t.Error(n)
	}
	place(t, r, 2, 12)
	if s := r.Text(3); s != "abc" {
		t.Error(s)
	}
	place(t, r, 5, 9)
	if s := r.Text(0); s != "" {
		t.Error(s)
	}
	place(t, r, 5, 9)
	if n := r.Num(1); n != 255 {
		t.Error(n)
	}
	place(t, r, 6, 8)
	if n := r.Num(8); n != eight {
		t.Error(n)
	}
	place(t, r, 14, 0)
	if s := r.Text(0); s != "" {
		t.Error(s)
	}
	place(t, r, 14, 0)
}

func TestReadersApart(t *testing.T) {
	a, b := New("\x01\x02"), New("\x03")
	a.Num(1)
	place(t, a, 1, 1)
	place(t, b, 0, 1)
	if n := b.Num(1); n != 3 {
		t.Error(n)
	}
	place(t, New(""), 0, 0)
}

// given tells what f gave up with, nil if it didn't.
func given(f func()) (v any) {
	defer func() { v = recover() }()
	f()
	return nil
}

func TestReaderGivesUp(t *testing.T) {
	for _, c := range []struct {
		ahead int
		sizes []int
		call  func(r *Reader, size int)
	}{
		{9, []int{0, -1, 9, 10, math.MinInt, math.MaxInt}, func(r *Reader, size int) { r.Num(size) }},
		{2, []int{3, 8}, func(r *Reader, size int) { r.Num(size) }},
		{0, []int{1, 8, 0}, func(r *Reader, size int) { r.Num(size) }},
		{9, []int{-1, 10, math.MinInt, math.MaxInt}, func(r *Reader, size int) { r.Text(size) }},
		{2, []int{3, -2}, func(r *Reader, size int) { r.Text(size) }},
		{0, []int{1, -1}, func(r *Reader, size int) { r.Text(size) }},
	} {
		for _, size := range c.sizes {
			r := New("xyz\x01\x02\x03\x04\x05\x06\x07\x08\x09"[:3+c.ahead])
			r.Text(3)
			v := given(func() { c.call(r, size) })
			if e, ok := v.(api.Errno); !ok || e != api.ErrShort {
				t.Errorf("%d ahead, size %d: gave up with %v", c.ahead, size, v)
			}
			place(t, r, 3, c.ahead)
		}
	}
}

func TestReaderGoesOnWhereItStayed(t *testing.T) {
	r := New("\x01\x02")
	if given(func() { r.Num(3) }) == nil || given(func() { r.Text(3) }) == nil {
		t.Error("it didn't give up")
	}
	if n := r.Num(2); n != 258 {
		t.Error(n)
	}
	place(t, r, 2, 0)
}

// P1.4: what was put is got; parts one behind the other are the text.

func TestPutIsGot(t *testing.T) {
	for _, n := range []uint64{0, 1, 127, 128, 255, 256, 65535, 65536, 1 << 31, math.MaxUint32, 1 << 40, eight, math.MaxInt64, 1 << 63, math.MaxUint64} {
		for size := 1; size <= 8; size++ {
			low := n << (64 - 8*size) >> (64 - 8*size)
			b := Put([]byte("abc"), n, size)
			if len(b) != 3+size {
				t.Errorf("%d in %d: %d bytes", n, size, len(b))
			}
			if got, ok := Get(string(b), 3, size); got != low || !ok {
				t.Errorf("%d in %d: %d, %v", n, size, got, ok)
			}
			r := New(string(b))
			if r.Text(3) != "abc" || r.Num(size) != low || r.Left() != 0 {
				t.Errorf("%d in %d: the reader got something else", n, size)
			}
		}
	}
}

func TestPartsAreTheText(t *testing.T) {
	text := "\x00\x01some text\xfe\xff"
	for i := range len(text) + 1 {
		for j := i; j <= len(text); j++ {
			a, _ := Part(text, 0, i)
			b, _ := Part(text, i, j-i)
			c, ok := Part(text, j, len(text)-j)
			if a+b+c != text || !ok {
				t.Errorf("parted at %d and %d: %q %q %q", i, j, a, b, c)
			}
			r := New(text)
			if r.Text(i)+r.Text(j-i)+r.Text(r.Left()) != text {
				t.Errorf("parted at %d and %d: the reader told another text", i, j)
			}
		}
	}
}
