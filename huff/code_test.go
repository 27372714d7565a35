package huff_test

import (
	"cmp"
	"math"
	"slices"
	"strings"
	"testing"

	"nuncio/huff"
)

// P10.1: Code.

// is fails if a sign has another code.
func is(t *testing.T, sign int, code uint32, bits int) {
	t.Helper()
	if c, n := huff.Code(sign); c != code || n != bits {
		t.Errorf("Code(%d) = %#x, %d, want %#x, %d", sign, c, n, code, bits)
	}
}

func TestCodeOfEachSign(t *testing.T) {
	for sign, want := range appendix {
		is(t, sign, want.code, want.bits)
	}
	is(t, '0', 0, 5)
	is(t, 'a', 3, 5)
	is(t, ' ', 0x14, 6)
	is(t, 'z', 0x7b, 7)
	is(t, 0, 0x1ff8, 13)
	is(t, 255, 0x3ffffee, 26)
	is(t, end, 0x3fffffff, 30)
}

func TestCodeOfWhatIsNoSign(t *testing.T) {
	for _, sign := range []int{-1, -2, -5, -256, -257, -65536, math.MinInt32, math.MinInt + 1, math.MinInt, 257, 258, 260, 511, 512, 513, 65536, 65536 + 'a', math.MaxInt32, math.MaxInt - 255, math.MaxInt - 1, math.MaxInt} {
		is(t, sign, 0, 0)
	}
	for n := range 2000 {
		is(t, -1-n, 0, 0)
		is(t, 257+n, 0, 0)
	}
}

// The letters of the chapter, its rows one behind the other.
func TestCodeHasTheLengthOfItsLetter(t *testing.T) {
	const letters = "isxxxxxxxtzxxzxxxxxxxxzxxxxxxxxxbffhibdgffdgdbbbaaabbbbbbbcdkbhf" +
		"ibccccccccccccccccccccccdcdioijbkabababbbaccbbbabcbaabccccckgjix" +
		"prpprrrsrssssststtrstssssqrsrsstrqprrssqsrrtqrssqqrqsrssprrrsrrs" +
		"vvporsruvvvwwvtuoqvwwvwtqqvvxwwwptpqrqqsrruuttvsvwvvwwwwwxwwwwwv" +
		"z"
	if len(letters) != end+1 {
		t.Fatalf("%d letters", len(letters))
	}
	for sign := range letters {
		if _, n := huff.Code(sign); n != strings.IndexByte("abcdefghijklmnopqrstuvwxyz", letters[sign])+5 {
			t.Errorf("Code(%d) has %d bits, its letter is %c", sign, n, letters[sign])
		}
	}
}

// Each code is the one ahead of it and 1, with noughts behind it.
func TestCodesRise(t *testing.T) {
	signs := make([]int, end+1)
	for sign := range signs {
		signs[sign] = sign
	}
	slices.SortFunc(signs, func(a, b int) int {
		_, m := huff.Code(a)
		_, n := huff.Code(b)
		return cmp.Or(m-n, a-b)
	})
	code, bits := uint64(0), 5
	for i, sign := range signs {
		_, n := huff.Code(sign)
		if i > 0 {
			code++
		}
		for ; bits < n; bits++ {
			code *= 2
		}
		is(t, sign, uint32(code), bits)
	}
	if last := signs[end]; last != end || code != 1<<30-1 {
		t.Errorf("the last code is %d's, %#x", last, code)
	}
}

func TestNoCodeBeginsAnother(t *testing.T) {
	all, room := make([]string, end+1), 0
	for sign := range all {
		c, n := huff.Code(sign)
		if n < 5 || n > 30 || c >= 1<<n {
			t.Fatalf("Code(%d) = %#x, %d", sign, c, n)
		}
		for at := n - 1; at >= 0; at-- {
			all[sign] += string('0' + rune(c>>at&1))
		}
		room += 1 << (30 - n)
	}
	for a, x := range all {
		for b, y := range all {
			if a != b && strings.HasPrefix(x, y) {
				t.Errorf("the code of %d, %s, begins with that of %d, %s", a, x, b, y)
			}
		}
	}
	// Nor is there room for a further one.
	if room != 1<<30 {
		t.Errorf("the codes take %d of %d", room, 1<<30)
	}
}

func TestCodeAgain(t *testing.T) {
	for range 3 {
		is(t, 'a', 3, 5)
		is(t, -1, 0, 0)
		is(t, end, 0x3fffffff, 30)
		is(t, end+1, 0, 0)
		is(t, 'a', 3, 5)
	}
}
