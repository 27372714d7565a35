package huff_test

import (
	"fmt"
	"strings"
	"testing"

	"nuncio/huff"
)

// P10.3: Decode. Right inputs beside these are in encode_test.go, by pair.

func TestDecodeUpToFewerThanEightOnes(t *testing.T) {
	for n := range 8 {
		s := ahead(n)
		decodes(t, whole(digitsOf(s)+ones(n)), s)
		decodes(t, whole(digitsOf("&&&"+s)+ones(n)), "&&&"+s)
		decodes(t, whole(digitsOf("\n\n\n\n"+s)+ones(n)), "\n\n\n\n"+s)
	}
}

func TestDecodeEightAndMoreOnes(t *testing.T) {
	for n := 8; n < 30; n++ {
		refuses(t, whole(digitsOf(ahead(n))+ones(n)))
		refuses(t, whole(digitsOf("&&&"+ahead(n))+ones(n)))
		refuses(t, whole(digitsOf("\n\n\n\n"+ahead(n))+ones(n)))
	}
	for n := range 400 {
		refuses(t, whole(ones(8*n+8)))
		refuses(t, whole(digitsOf(ahead(n+8))+ones(n+8)))
	}
}

func TestDecodeAByteOf255(t *testing.T) {
	refuses(t, "\xff")
	refuses(t, "\xff\xff")
	refuses(t, "\xff\xff\xff")
	refuses(t, "\xff\xff\xff\xff")
	refuses(t, "\x64\x02\xff")
	for _, s := range []string{"", "www.example.com", "no-cache", "302", "307", "\n", "\x16", "\xff", "0", "00", "000", "0000", "00000", "000000", "0000000", "00000000", every()} {
		for n := 1; n < 6; n++ {
			refuses(t, huff.Encode(s)+strings.Repeat("\xff", n))
		}
	}
	for c := range 256 {
		for zeros := range 8 {
			refuses(t, filled(digitsOf(strings.Repeat("0", zeros)+sign(c)))+"\xff")
		}
	}
}

func TestDecodeTheEnd(t *testing.T) {
	// It ends at a byte's end.
	refuses(t, "\x00\x3f\xff\xff\xff")
	refuses(t, "\x00\x3f\xff\xff\xff\x07")
	refuses(t, "\x00\x3f\xff\xff\xff\x00\x3f")
	refuses(t, "\x00\x3f\xff\xff\xff\x00\x3f\xff\xff\xff")
	// It ends within a byte.
	refuses(t, "\xff\xff\xff\xff")
	refuses(t, "\xff\xff\xff\xfc")
	refuses(t, "\xff\xff\xff\xfc\x1f")
	for zeros := range 16 {
		front := digitsOf(strings.Repeat("0", zeros)) + ones(30)
		refuses(t, filled(front))
		refuses(t, filled(front+ones(30)))
		for c := range 256 {
			refuses(t, filled(front+digits(c)))
			refuses(t, filled(digits(c)+front))
			refuses(t, filled(digits(c)+front+digits(c)))
		}
	}
}

func TestDecodeTheSignsBesideTheEnd(t *testing.T) {
	for zeros := range 8 {
		for _, s := range []string{"\n", "\r", "\x16", "\x16\x16", "\n\x16\r"} {
			s = strings.Repeat("0", zeros) + s
			decodes(t, filled(digitsOf(s)), s)
		}
	}
}

// begins: do these digits begin with a code?
func begins(s string) bool {
	for c := range appendix {
		if strings.HasPrefix(s, digits(c)) {
			return true
		}
	}
	return false
}

func TestDecodeFewerThanEightBitsThatAreNotAllOnes(t *testing.T) {
	refuses(t, "\x00")
	refuses(t, "\x06")
	refuses(t, "\x05")
	refuses(t, "\x03")
	refuses(t, "\x00\x00")
	refuses(t, "\x00\x3e")
	refuses(t, "\x00\x3d")
	refuses(t, "\xfe")
	refuses(t, "\xa8\xeb\x10\x64\x9c\xbe")
	count := 0
	for n := 1; n < 8; n++ {
		for v := range 1<<n - 1 {
			left := fmt.Sprintf("%0*b", n, v)
			if begins(left) {
				continue
			}
			count++
			refuses(t, whole(digitsOf(ahead(n))+left))
			refuses(t, whole(digitsOf("&"+ahead(n))+left))
			refuses(t, whole(digitsOf("\x16\x16\x16\x16"+ahead(n))+left))
		}
	}
	// All but those with a code in front, and the ones: of one to four digits 1, 3, 7 and 15, then 32-10-1, 64-20-26-1 and 128-40-52-32-1.
	if count != 1+3+7+15+21+17+3 {
		t.Errorf("%d ends", count)
	}
}

func TestDecodeACodeThatIsCutOff(t *testing.T) {
	for c := range appendix {
		for n := 1; n < appendix[c].bits; n++ {
			left := digits(c)[:n]
			s := ahead(n)
			if n < 8 && left == ones(n) {
				decodes(t, whole(digitsOf(s)+left), s)
			} else {
				refuses(t, whole(digitsOf(s)+left))
			}
		}
	}
}

// With an error nothing is told of what stood in front.
func TestDecodeTellsNothingBesideAnError(t *testing.T) {
	for _, s := range []string{"\xff", "\x00", "\xff\xff\xff\xff"} {
		refuses(t, whole(digitsOf(strings.Repeat("www.example.com", 8)))+s)
	}
}

func TestDecodeAgain(t *testing.T) {
	for range 3 {
		decodes(t, "\x64\x02", "302")
		refuses(t, "\x64\x02\xff")
		decodes(t, "", "")
		refuses(t, "\xff\xff\xff\xff")
		decodes(t, "\x07", "0")
	}
}
