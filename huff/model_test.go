package huff_test

import (
	"fmt"
	"math/rand"
	"strings"
	"testing"

	"nuncio/api"
	"nuncio/huff"
)

// P10.2 to P10.4 held against a model that cuts off digits of the base 2.

// model knows the signs by the digits of their codes.
type model map[string]int

// newModel is the one of the table.
func newModel() model {
	m := model{}
	for sign := range appendix {
		m[digits(sign)] = sign
	}
	return m
}

// decode is what bytes are.
func (m model) decode(s string) (string, api.Errno) {
	var all strings.Builder
	for i := range len(s) {
		fmt.Fprintf(&all, "%08b", s[i])
	}
	left, text := all.String(), []byte(nil)
	for {
		sign, size := m.first(left)
		if size == 0 {
			break
		}
		if sign == end {
			return "", api.ErrPadding
		}
		text, left = append(text, byte(sign)), left[size:]
	}
	if len(left) >= 8 || strings.Contains(left, "0") {
		return "", api.ErrPadding
	}
	return string(text), api.OK
}

// first is the sign whose code stands in front, and how long that is.
func (m model) first(s string) (sign, size int) {
	for size := 5; size <= min(len(s), 30); size++ {
		if sign, ok := m[s[:size]]; ok {
			return sign, size
		}
	}
	return 0, 0
}

// holds fails if bytes are decoded otherwise than by the model, or not encoded as just these again.
func (m model) holds(t *testing.T, s string) api.Errno {
	t.Helper()
	want, e := m.decode(s)
	if e != api.OK {
		refuses(t, s)
	} else {
		pair(t, want, s)
	}
	return e
}

func TestAllShortTextsComeBack(t *testing.T) {
	seen := map[string]string{}
	for _, s := range upToTwo() {
		got := huff.Encode(s)
		pair(t, s, filled(digitsOf(s)))
		if other, twice := seen[got]; twice {
			t.Errorf("%q and %q are both %x", s, other, got)
		}
		seen[got] = s
	}
}

// upToTwo are all texts of up to two bytes.
func upToTwo() []string {
	all := []string{""}
	for a := range 256 {
		all = append(all, sign(a))
	}
	for a := range 256 {
		for b := range 256 {
			all = append(all, sign(a)+sign(b))
		}
	}
	return all
}

func TestDecodeAllShortTexts(t *testing.T) {
	m, right, seen := newModel(), 0, map[string]string{}
	for _, s := range upToTwo() {
		if m.holds(t, s) != api.OK {
			continue
		}
		right++
		got, _ := huff.Decode(s)
		if other, twice := seen[got]; twice {
			t.Errorf("%x and %x are both %q", s, other, got)
		}
		seen[got] = s
	}
	// So many texts have codes of 0, of up to 8 and of up to 16 bits together.
	want := 0
	for _, s := range append(texts(3), "") {
		if len(digitsOf(s)) <= 16 {
			want++
		}
	}
	if right != want {
		t.Errorf("%d texts are right, want %d", right, want)
	}
}

// texts are those of one to so many bytes, none of which has a code of more than 16 bits.
func texts(size int) []string {
	all, last := []string(nil), []string{""}
	for range size {
		var next []string
		for _, s := range last {
			for c := range 256 {
				if len(digitsOf(s))+appendix[c].bits <= 16 {
					next = append(next, s+sign(c))
				}
			}
		}
		all, last = append(all, next...), next
	}
	return all
}

func TestDecodeAllTextsOfSomeBytes(t *testing.T) {
	const alphabet = "\x00\x07\x3f\xf8\xfe\xff"
	m, count := newModel(), 0
	var each func(s string, size int)
	each = func(s string, size int) {
		count++
		m.holds(t, s)
		for i := range len(alphabet) {
			if size > 0 {
				each(s+alphabet[i:i+1], size-1)
			}
		}
	}
	each("", 6)
	// 1 + 6 + 36 and so on.
	if count != 55987 {
		t.Errorf("%d texts", count)
	}
}

func TestGeneratedTextsComeBack(t *testing.T) {
	m := rand.New(rand.NewSource(10))
	for range 20000 {
		b := make([]byte, m.Intn(40))
		for i := range b {
			b[i] = byte(m.Intn(256) >> m.Intn(3))
		}
		pair(t, string(b), filled(digitsOf(string(b))))
	}
}

func TestDecodeGeneratedTexts(t *testing.T) {
	m, r, found := newModel(), rand.New(rand.NewSource(11)), map[api.Errno]int{}
	for range 60000 {
		var b strings.Builder
		for range r.Intn(12) {
			c := r.Intn(256)
			// Frequent signs, the longest codes and the end are not to be rare.
			switch r.Intn(8) {
			case 0, 1, 2:
				c = int("012aceiost%-./=ABC"[r.Intn(18)])
			case 3:
				c = []int{10, 13, 22, 255, 249}[r.Intn(5)]
			case 4:
				c = []int{end, 'a', 'b', ' ', '&', '!', 0, 1}[r.Intn(8)]
			}
			b.WriteString(digits(c))
		}
		s := b.String()
		switch r.Intn(4) {
		case 0, 1:
			s += ones(lacking(len(s)))
		case 2:
			s += strings.Repeat("10"[r.Intn(2):][:1], lacking(len(s)))
		case 3:
			s += fmt.Sprintf("%032b", r.Uint32())
			s = s[:len(s)/8*8]
		}
		found[m.holds(t, whole(s))]++
	}
	for _, e := range []api.Errno{api.OK, api.ErrPadding} {
		if found[e] < 10000 {
			t.Errorf("the error %d: only %d texts", e, found[e])
		}
	}
}

func TestDecodeGeneratedBytes(t *testing.T) {
	m, r, found := newModel(), rand.New(rand.NewSource(12)), map[api.Errno]int{}
	for range 60000 {
		b := make([]byte, r.Intn(8))
		for i := range b {
			b[i] = byte(r.Intn(256))
			if r.Intn(3) == 0 {
				b[i] = 0xff
			}
		}
		found[m.holds(t, string(b))]++
	}
	for _, e := range []api.Errno{api.OK, api.ErrPadding} {
		if found[e] < 3000 {
			t.Errorf("the error %d: only %d texts", e, found[e])
		}
	}
}
