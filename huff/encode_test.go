package huff_test

import (
	"strings"
	"testing"

	"nuncio/huff"
)

// P10.2: Encode and Size.

func TestExamples(t *testing.T) {
	pair(t, "www.example.com", "\xf1\xe3\xc2\xe5\xf2\x3a\x6b\xa0\xab\x90\xf4\xff")
	pair(t, "no-cache", "\xa8\xeb\x10\x64\x9c\xbf")
	pair(t, "302", "\x64\x02")
	// RFC 7541, C.4 and C.6.
	pair(t, "custom-key", "\x25\xa8\x49\xe9\x5b\xa9\x7d\x7f")
	pair(t, "custom-value", "\x25\xa8\x49\xe9\x5b\xb8\xe8\xb4\xbf")
	pair(t, "private", "\xae\xc3\x77\x1a\x4b")
	pair(t, "Mon, 21 Oct 2013 20:13:21 GMT", "\xd0\x7a\xbe\x94\x10\x54\xd4\x44\xa8\x20\x05\x95\x04\x0b\x81\x66\xe0\x82\xa6\x2d\x1b\xff")
	pair(t, "Mon, 21 Oct 2013 20:13:22 GMT", "\xd0\x7a\xbe\x94\x10\x54\xd4\x44\xa8\x20\x05\x95\x04\x0b\x81\x66\xe0\x84\xa6\x2d\x1b\xff")
	pair(t, "https://www.example.com", "\x9d\x29\xad\x17\x18\x63\xc7\x8f\x0b\x97\xc8\xe9\xae\x82\xae\x43\xd3")
	pair(t, "307", "\x64\x0e\xff")
	pair(t, "gzip", "\x9b\xd9\xab")
	pair(t, "foo=ASDJKHQKBZXOQWEOPIUAXQWEOIU; max-age=3600; version=1", "\x94\xe7\x82\x1d\xd7\xf2\xe6\xc7\xb3\x35\xdf\xdf\xcd\x5b\x39\x60\xd5\xaf\x27\x08\x7f\x36\x72\xc1\xab\x27\x0f\xb5\x29\x1f\x95\x87\x31\x60\x65\xc0\x03\xed\x4e\xe5\xb1\x06\x3d\x50\x07")
}

func TestEmptyText(t *testing.T) { pair(t, "", "") }

func TestEachByteByItself(t *testing.T) {
	pair(t, "0", "\x07")
	pair(t, " ", "\x53")
	pair(t, "z", "\xf7")
	pair(t, "&", "\xf8")
	pair(t, "!", "\xfe\x3f")
	pair(t, "\x00", "\xff\xc7")
	pair(t, "\x7f", "\xff\xff\xff\xcf")
	pair(t, "\x80", "\xff\xfe\x6f")
	pair(t, "\xff", "\xff\xff\xfb\xbf")
	for c := range 256 {
		pair(t, sign(c), filled(digits(c)))
	}
}

// Five bits each: they end at a byte's end, and one to seven bits ahead of it.
func TestShortestCodes(t *testing.T) {
	pair(t, "00", "\x00\x3f")
	pair(t, "000", "\x00\x01")
	pair(t, "0000", "\x00\x00\x0f")
	pair(t, "00000", "\x00\x00\x00\x7f")
	pair(t, "000000", "\x00\x00\x00\x03")
	pair(t, "0000000", "\x00\x00\x00\x00\x1f")
	pair(t, "00000000", "\x00\x00\x00\x00\x00")
	pair(t, "000000000", "\x00\x00\x00\x00\x00\x07")
	pair(t, "tttttttt", "\x4a\x52\x94\xa5\x29")
	pair(t, "012aceiost", "\x00\x44\x32\x14\xc7\x42\x7f")
	for n := range 100 {
		for _, c := range "012aceiost" {
			s := strings.Repeat(string(c), n)
			pair(t, s, filled(digitsOf(s)))
		}
	}
}

func TestLongestCodes(t *testing.T) {
	pair(t, "\n", "\xff\xff\xff\xf3")
	pair(t, "\r", "\xff\xff\xff\xf7")
	pair(t, "\x16", "\xff\xff\xff\xfb")
	pair(t, "\n\n", "\xff\xff\xff\xf3\xff\xff\xff\xcf")
	pair(t, "\n\n\n", "\xff\xff\xff\xf3\xff\xff\xff\xcf\xff\xff\xff\x3f")
	pair(t, "\n\n\n\n", "\xff\xff\xff\xf3\xff\xff\xff\xcf\xff\xff\xff\x3f\xff\xff\xfc")
	pair(t, "0\n", "\x07\xff\xff\xff\x9f")
	pair(t, "00\x16", "\x00\x3f\xff\xff\xfe")
	for n := range 100 {
		for _, c := range "\n\r\x16" {
			for zeros := range 8 {
				s := strings.Repeat("0", zeros) + strings.Repeat(string(c), n)
				pair(t, s, filled(digitsOf(s)))
			}
		}
	}
}

func TestEachByteEndsAnywhere(t *testing.T) {
	for c := range 256 {
		ends := map[int]bool{}
		for zeros := range 8 {
			s := strings.Repeat("0", zeros) + sign(c)
			ends[lacking(len(digitsOf(s)))] = true
			pair(t, s, filled(digitsOf(s)))
			pair(t, s+"0", filled(digitsOf(s+"0")))
			pair(t, s+"\n", filled(digitsOf(s+"\n")))
			pair(t, s+s, filled(digitsOf(s+s)))
		}
		if len(ends) != 8 {
			t.Errorf("%d: %v", c, ends)
		}
	}
}

func TestLongTexts(t *testing.T) {
	for _, s := range []string{every(), strings.Repeat("0", 1<<20), strings.Repeat("\n", 1<<18+1), strings.Repeat("ab\x00", 1<<17), strings.Repeat(every(), 1<<9)} {
		pair(t, s, filled(digitsOf(s)))
	}
}

func TestSizeAlone(t *testing.T) {
	for s, want := range map[string]int{"": 0, "0": 1, "00": 2, "000": 2, "0000": 3, "00000": 4, "000000": 4, "0000000": 5, "00000000": 5, "000000000": 6, "\n": 4, "\n\n": 8, "\n\n\n\n": 15, "\n\n\n\n\n": 19, "&": 1, "&&": 2, "&0": 2, "&\n": 5, "\xff": 4, "\xff\xff": 7, every(): 583} {
		if got := huff.Size(s); got != want {
			t.Errorf("Size(%s) = %d, want %d", told(s), got, want)
		}
	}
	// 30 bits of each of 2^24 bytes.
	if got := huff.Size(strings.Repeat("\n", 1<<24)); got != 30<<24/8 {
		t.Errorf("Size of 2^24 bytes = %d", got)
	}
}

func TestAnswersAreNewMemory(t *testing.T) {
	for _, s := range []string{"00", "no-cache", "\n\n\n", "www.example.com", every()} {
		x, y := huff.Encode(s), huff.Encode(s)
		if !apart(x, s) || !apart(x, y) {
			t.Errorf("Encode(%s) is in memory that is another's", told(s))
		}
		v, _ := huff.Decode(x)
		w, _ := huff.Decode(x)
		if !apart(v, x) || !apart(v, s) || !apart(v, w) {
			t.Errorf("Decode(%s) is in memory that is another's", told(x))
		}
	}
}
