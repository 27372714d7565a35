package b64

import (
	"encoding/base64"
	"iter"
	"math/rand"
	"strings"
	"testing"
)

// library knows the same signs; it is held against this package where the document says the same.
var library = base64.RawURLEncoding.Strict()

// texts: every text of so many signs of an alphabet.
func texts(alphabet string, size int) iter.Seq[string] {
	return func(yield func(string) bool) {
		if size == 0 {
			yield("")
			return
		}
		for head := range texts(alphabet, size-1) {
			for i := range len(alphabet) {
				if !yield(head + alphabet[i:i+1]) {
					return
				}
			}
		}
	}
}

// allBytes: each of the 256 once.
func allBytes() string {
	b := make([]byte, 256)
	for i := range b {
		b[i] = byte(i)
	}
	return string(b)
}

// reads: signs are read as bytes.
func reads(t *testing.T, s, want string) {
	t.Helper()
	if got, ok := Decode(s); got != want || !ok {
		t.Errorf("Decode(%q) = %q, %v; want %q", s, got, ok, want)
	}
}

// refuses: a text is signs of no bytes.
func refuses(t *testing.T, s string) {
	t.Helper()
	if got, ok := Decode(s); got != "" || ok {
		t.Errorf("Decode(%q) = %q, %v; want none", s, got, ok)
	}
}

// pair: bytes and their signs, there and back.
func pair(t *testing.T, bytes, signs string) {
	t.Helper()
	if got := Encode(bytes); got != signs {
		t.Errorf("Encode(%q) = %q, want %q", bytes, got, signs)
	}
	reads(t, signs, bytes)
}

// P3.1: Encode and Decode.

func TestPairs(t *testing.T) {
	pair(t, "", "")
	pair(t, "\x00", "AA")
	pair(t, "\x00\x00", "AAA")
	pair(t, "\x00\x00\x00", "AAAA")
	pair(t, "\x00\x00\x00\x00", "AAAAAA")
	pair(t, "\xff", "_w")
	pair(t, "\xff\xff", "__8")
	pair(t, "\xff\xff\xff", "____")
	pair(t, "\xff\xff\xff\xff", "_____w")
	pair(t, "\xfb\xef\xff", "--__")
	pair(t, "f", "Zg")
	pair(t, "fo", "Zm8")
	pair(t, "foo", "Zm9v")
	pair(t, "foob", "Zm9vYg")
	pair(t, "fooba", "Zm9vYmE")
	pair(t, "foobar", "Zm9vYmFy")
}

func TestTheHighestBitsComeFirst(t *testing.T) {
	pair(t, "\x80\x00\x00", "gAAA")
	pair(t, "\x00\x80\x00", "AIAA")
	pair(t, "\x00\x00\x80", "AACA")
	pair(t, "\x01\x02\x03", "AQID")
}

func TestEachSignStandsForItsNumber(t *testing.T) {
	all := "ABCDEFGHIJKLMNOPQRSTUVWXYZabcdefghijklmnopqrstuvwxyz0123456789-_"
	for n := range 64 {
		sign := all[n : n+1]
		pair(t, string([]byte{0, 0, byte(n)}), "AAA"+sign)
		pair(t, string([]byte{byte(n << 2), 0, 0}), sign+"AAA")
		pair(t, string([]byte{byte(n >> 4), byte(n << 4), 0}), "A"+sign+"AA")
		pair(t, string([]byte{0, byte(n >> 2), byte(n << 6)}), "AA"+sign+"A")
	}
}

func TestEveryOneAndTwoBytes(t *testing.T) {
	for size := range 3 {
		for s := range texts(allBytes(), size) {
			pair(t, s, library.EncodeToString([]byte(s)))
		}
	}
}

func TestLongTexts(t *testing.T) {
	chance := rand.New(rand.NewSource(3))
	for size := range 600 {
		b := make([]byte, size)
		chance.Read(b)
		pair(t, string(b), library.EncodeToString(b))
	}
	long := strings.Repeat(allBytes(), 1<<12)
	pair(t, long, library.EncodeToString([]byte(long)))
}

func TestBytesThatAreNoSigns(t *testing.T) {
	for i := range 256 {
		c := string([]byte{byte(i)})
		if strings.Contains(signs, c) {
			continue
		}
		for _, whole := range []string{"AA", "AAA", "AAAA", "AAAAAA"} {
			for at := range len(whole) {
				refuses(t, whole[:at]+c+whole[at+1:])
				refuses(t, whole[:at]+c+whole[at:])
			}
			refuses(t, whole+c)
		}
		refuses(t, c)
		refuses(t, c+c)
		refuses(t, c+c+c+c)
	}
}

func TestPaddingAndBlanks(t *testing.T) {
	for _, s := range []string{
		"AA==", "AA=", "AAA=", "AAAA=", "=", "==", "====", "A===", "=AAA",
		"A+", "A/", "+w", "/w", "++//", "--+/",
		" AA", "AA ", "A A", "\tAA", "AA\t", "AA\n", "AA\r\n", "\nAA", "AA\nAA", "AAAA\nAAAA", "AAAA\r",
		"AA\x00", "AA,AA", "A.AA", "\u0410A", "AA\u00a0",
	} {
		refuses(t, s)
	}
}

func TestLengthsThatNoBytesHave(t *testing.T) {
	for size := range 200 {
		s := strings.Repeat("A", size)
		if size%4 == 1 {
			refuses(t, s)
		} else {
			reads(t, s, strings.Repeat("\x00", size*6/8))
		}
	}
	for i := range len(signs) {
		refuses(t, signs[i:i+1])
		refuses(t, "AAAA"+signs[i:i+1])
		refuses(t, "Zm9vYmFy"+signs[i:i+1])
	}
}

func TestBitsThatShouldBeZero(t *testing.T) {
	for n := range len(signs) {
		last := signs[n : n+1]
		for _, head := range []string{"", "Zm9v", "____"} {
			if n%16 == 0 {
				pair(t, part(head)+string([]byte{byte(n >> 4)}), head+"A"+last)
			} else {
				refuses(t, head+"A"+last)
				refuses(t, head+"_"+last)
			}
			if n%4 == 0 {
				pair(t, part(head)+string([]byte{0, byte(n >> 2)}), head+"AA"+last)
			} else {
				refuses(t, head+"AA"+last)
				refuses(t, head+"__"+last)
			}
		}
	}
}

// part: the bytes of signs that the library knows.
func part(s string) string {
	b, _ := library.DecodeString(s)
	return string(b)
}

// P3.2: each text has just one text of signs.

func TestWhatIsReadIsWrittenAgain(t *testing.T) {
	for size := range 4 {
		for s := range texts(signs+"=+/ @[`{,.^\x80\xff\n", size) {
			got, ok := Decode(s)
			if ok && Encode(got) != s || !ok && got != "" {
				t.Errorf("Decode(%q) = %q, %v, which is written %q", s, got, ok, Encode(got))
			}
		}
	}
}

func TestNoTwoTextsOfSignsAreReadAlike(t *testing.T) {
	for size := 1; size <= 2; size++ {
		count, seen := 0, map[string]string{}
		for s := range texts(signs, size+1) {
			got, ok := Decode(s)
			if !ok {
				continue
			}
			count++
			if other, twice := seen[got]; twice {
				t.Errorf("%q and %q are both read %q", s, other, got)
			}
			seen[got] = s
			if len(got) != size {
				t.Errorf("Decode(%q) has %d bytes", s, len(got))
			}
		}
		if count != 1<<(8*size) {
			t.Errorf("%d texts of signs for %d bytes", count, size)
		}
	}
}
