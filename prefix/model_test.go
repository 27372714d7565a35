package prefix_test

import (
	"fmt"
	"math"
	"math/big"
	"math/rand"
	"strings"
	"testing"

	"nuncio/api"
	"nuncio/prefix"
)

// P9.1 to P9.3 held against a model of them that works on digits of the base 2.

// modelPut is n as bytes.
func modelPut(first byte, bits int, n uint64) string {
	other := fmt.Sprintf("%08b", first)[:8-bits]
	ones := strings.Repeat("1", bits)
	low := fmt.Sprintf("%0*b", bits, n)
	if len(low) == bits && low != ones {
		return fromDigits(other + low)
	}
	rest := new(big.Int).Sub(new(big.Int).SetUint64(n), new(big.Int).SetUint64(most(bits))).Text(2)
	for len(rest)%7 != 0 {
		rest = "0" + rest
	}
	s := ""
	for ahead := "0"; rest != ""; ahead = "1" {
		s += ahead + rest[:7]
		rest = rest[7:]
	}
	all := []byte(fromDigits(s))
	for i, j := 0, len(all)-1; i < j; i, j = i+1, j-1 {
		all[i], all[j] = all[j], all[i]
	}
	return fromDigits(other+ones) + string(all)
}

// fromDigits are the bytes of eight digits each.
func fromDigits(s string) string {
	var b strings.Builder
	for ; s != ""; s = s[8:] {
		n := 0
		for _, c := range s[:8] {
			n = 2*n + int(c-'0')
		}
		b.WriteByte(byte(n))
	}
	return b.String()
}

// modelGet is the integer that stands at a place.
func modelGet(s string, at, bits int) (uint64, int, api.Errno) {
	if at < 0 || at >= len(s) {
		return 0, 0, api.ErrShort
	}
	low := fmt.Sprintf("%08b", s[at])[8-bits:]
	if strings.Contains(low, "0") {
		return digits(low).Uint64(), at + 1, api.OK
	}
	number := ""
	for behind := 1; ; behind++ {
		if at+behind >= len(s) {
			return 0, 0, api.ErrShort
		}
		next := fmt.Sprintf("%08b", s[at+behind])
		number = next[1:] + number
		sum := new(big.Int).Add(digits(number), digits(low))
		if sum.Cmp(digits(strings.Repeat("1", 32))) > 0 || next[0] == '1' && behind == 5 {
			return 0, 0, api.ErrInteger
		}
		if next[0] == '0' {
			return sum.Uint64(), at + behind + 1, api.OK
		}
	}
}

// digits are a number of the base 2.
func digits(s string) *big.Int {
	n, ok := new(big.Int).SetString(s, 2)
	if !ok {
		panic("no digits: " + s)
	}
	return n
}

// holds fails if Get answers otherwise than the model.
func holds(t *testing.T, s string, at, bits int) {
	t.Helper()
	if n, next, e := modelGet(s, at, bits); e != api.OK {
		wrong(t, s, at, bits, e)
	} else {
		gets(t, s, at, bits, n, next)
	}
}

// there fails if a number is put otherwise than by the model, or isn't got.
func there(t *testing.T, first byte, bits int, n uint64) {
	t.Helper()
	want := modelPut(first, bits, n)
	puts(t, first, bits, n, want)
	s := string(prefix.Put([]byte("head"), first, bits, n)) + "tail"
	if n <= math.MaxUint32 {
		gets(t, s, 4, bits, n, 4+len(want))
	} else {
		wrong(t, s, 4, bits, api.ErrInteger)
	}
}

func TestPutAndGetAtTheEdges(t *testing.T) {
	for bits := 1; bits <= 8; bits++ {
		for _, n := range edges(bits) {
			for _, first := range []byte{0, 0xff, byte(most(bits)), ^byte(most(bits)), 0x55, 0xaa} {
				there(t, first, bits, n)
			}
		}
	}
}

func TestPutAndGetSmallNumbers(t *testing.T) {
	for bits := 1; bits <= 8; bits++ {
		for n := range uint64(17000) {
			there(t, byte(n*31), bits, n)
		}
	}
}

func TestPutAndGetOfBitsThatMayNotBe(t *testing.T) {
	for _, size := range sizes() {
		for _, n := range edges(size.counts) {
			s := string(prefix.Put(nil, 0x5a, size.given, n))
			if s != modelPut(0x5a, size.counts, n) {
				t.Errorf("%d bits, %d: % x", size.given, n, s)
			}
			if n <= math.MaxUint32 {
				gets(t, s, 0, size.given, n, len(s))
			} else {
				wrong(t, s, 0, size.given, api.ErrInteger)
			}
		}
	}
}

func TestPutAndGetGeneratedNumbers(t *testing.T) {
	m := rand.New(rand.NewSource(9))
	for range 100000 {
		// Numbers of all lengths are as frequent.
		n := m.Uint64() >> m.Intn(64)
		there(t, byte(m.Intn(256)), 1+m.Intn(8), n)
	}
}

// What is put in as few bytes as can be is the only text of so few bytes, or fewer, that is got as that number.
func TestNoFewerBytes(t *testing.T) {
	for _, bits := range []int{1, 4, 8} {
		texts("\x00\x01\x02\x7f\x80\x81\xff", 4, func(s string) {
			n, next, e := prefix.Get(string([]byte{byte(most(bits))})+s, 0, bits)
			if e != api.OK {
				return
			}
			least := prefix.Put(nil, 0, bits, n)
			if len(least) > next || len(least) == next && string(least[1:]) != s[:next-1] {
				t.Errorf("%d bits, %d: % x, and also % x", bits, n, least, s[:next-1])
			}
		})
	}
}

func TestGetAllShortTexts(t *testing.T) {
	every := make([]byte, 256)
	for i := range every {
		every[i] = byte(i)
	}
	for _, bits := range []int{1, 5, 7, 8} {
		texts(string(every), 2, func(s string) { holds(t, s, 0, bits) })
	}
}

func TestGetAllTextsOfSomeBytes(t *testing.T) {
	const alphabet = "\x00\x0f\x10\x7f\x80\xff"
	count := 0
	for _, bits := range []int{1, 4, 8} {
		all := string([]byte{byte(most(bits))})
		texts(alphabet, 6, func(s string) {
			count++
			holds(t, all+s, 0, bits)
		})
	}
	// 1 + 6 + 36 and so on, for each number of bits.
	if count != 3*55987 {
		t.Errorf("%d texts", count)
	}
}

func TestGetGeneratedTexts(t *testing.T) {
	m := rand.New(rand.NewSource(10))
	found := map[api.Errno]int{}
	for range 100000 {
		b := make([]byte, m.Intn(12))
		for i := range b {
			b[i] = byte(m.Intn(256))
			// Full prefixes, and bytes that tell of another one, are not to be rare.
			switch m.Intn(4) {
			case 0:
				b[i] = 0xff
			case 1, 2:
				b[i] |= 0x80
			}
		}
		at, bits := m.Intn(len(b)/2+2)-1, 1+m.Intn(8)
		holds(t, string(b), at, bits)
		_, _, e := prefix.Get(string(b), at, bits)
		found[e]++
	}
	for _, e := range []api.Errno{api.OK, api.ErrShort, api.ErrInteger} {
		if found[e] < 3000 {
			t.Errorf("the error %d: only %d texts", e, found[e])
		}
	}
}
