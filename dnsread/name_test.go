package dnsread_test

import (
	"math"
	"strings"
	"testing"
	"time"

	"nuncio/api"
	"nuncio/dnsread"
	"nuncio/name"
)

// P6.1: Name.

func TestExamples(t *testing.T) {
	s := "\x01a\x00\x01b\xc0\x00"
	checkName(t, s, 0, a, 3, api.OK)
	checkName(t, s, 3, "\x01b\x01a\x00", 7, api.OK)
	noName(t, "\xc0\x00", 0, api.ErrPointer)
}

func TestFirstBytes(t *testing.T) {
	for c := range 256 {
		s := string([]byte{byte(c)})
		switch {
		case c == 0:
			checkName(t, s, 0, root, 1, api.OK)
			checkName(t, s+"\xff", 0, root, 1, api.OK)
		case c <= 63:
			noName(t, s, 0, api.ErrShort)
			noName(t, s+zs(c-1), 0, api.ErrShort)
			noName(t, s+zs(c), 0, api.ErrShort)
			for _, within := range []string{"z", root, "\x40", "\xc0", "\xff"} {
				want := s + strings.Repeat(within, c) + root
				goodName(t, want, 0, want)
				checkName(t, want+"\xff", 0, want, c+2, api.OK)
			}
		case c <= 191:
			noName(t, s, 0, api.ErrLabel)
			noName(t, s+zs(c)+root, 0, api.ErrLabel)
			noName(t, "\x01a"+s+zs(c)+root, 0, api.ErrLabel)
			noName(t, s+to(0), 1, api.ErrLabel)
			noName(t, "\x01a"+s+"\x01b"+to(0), 3, api.ErrLabel)
		default:
			noName(t, s, 0, api.ErrShort)
			noName(t, "\x01a"+s, 0, api.ErrShort)
			noName(t, s+root, 0, api.ErrPointer)
			noName(t, s+"\xff"+zs(300), 0, api.ErrPointer)
			place := 256*(c-192) + 5
			goodName(t, zs(place)+a+s+"\x05", place+3, a)
		}
	}
}

// good are names, whatever their bytes.
func good() []string {
	return []string{root, a, "\x01A\x00", ex, "\x01.\x00", "\x01\\\x00", "\x01\x00\x00", "\x02\xc0\x00\x00", "\x03\x00\x00\x00\x00", "\x04\x01a\x00\x40\x01b\x00", labels(1, 63, 2) + root, longest(), strings.Repeat("\x01a", 127) + root}
}

func TestNames(t *testing.T) {
	for _, s := range good() {
		if !name.Is(s) {
			t.Fatalf("%s is no name", show(s))
		}
		checkName(t, s, 0, s, len(s), api.OK)
		checkName(t, s+"\xff", 0, s, len(s), api.OK)
		checkName(t, "\xff"+s+s, 1, s, 1+len(s), api.OK)
		checkName(t, s+to(0)+"x", len(s), s, len(s)+2, api.OK)
		checkName(t, s+to(0)+to(len(s))+"x", len(s)+2, s, len(s)+4, api.OK)
		if len(s) < 254 {
			checkName(t, "z"+s+"\x01b"+to(1)+"x", 1+len(s), "\x01b"+s, 5+len(s), api.OK)
		}
	}
}

func TestPlaces(t *testing.T) {
	for _, s := range append(good(), "", "\x40", "\xc0\x00") {
		for _, at := range []int{-1, -2, -len(s), -len(s) - 1, -65536, math.MinInt32, math.MinInt + 1, math.MinInt, len(s), len(s) + 1, len(s) + 255, 65535, 65536, math.MaxInt32, math.MaxInt - 1, math.MaxInt} {
			if at < 0 || at >= len(s) {
				noName(t, s, at, api.ErrShort)
			}
		}
	}
	s := ex + a
	for at, want := range map[int]string{0: ex, 4: "\x02Ex\x00", 7: root, 8: a, 10: root} {
		checkName(t, s, at, want, at+len(want), api.OK)
	}
	for _, at := range []int{1, 2, 3, 5, 6, 9} {
		noName(t, s, at, api.ErrLabel)
	}
}

func TestSizesOfNames(t *testing.T) {
	for last := 1; last <= 63; last++ {
		s := labels(63, 63, 63, last) + root
		if last <= 61 {
			goodName(t, s, 0, s)
		} else {
			noName(t, s, 0, api.ErrName)
		}
	}
	ones := strings.Repeat("\x01a", 127)
	goodName(t, ones+root, 0, ones+root)
	noName(t, "\x02ab"+ones[2:]+root, 0, api.ErrName)
	noName(t, ones+"\x01a"+root, 0, api.ErrName)
	noName(t, ones+ones+root, 0, api.ErrName)
}

func TestSizesOfNamesWithPointers(t *testing.T) {
	for _, size := range []int{1, 3, 5, 64, 65, 66, 128, 129, 250, 251, 252, 253, 254, 255} {
		tail := root
		if size > 1 {
			tail = filled(size-1) + root
		}
		for n := 2; n <= 260; n++ {
			head := filled(n)
			once, twice := tail+head+to(0), tail+to(0)+head+to(size)
			if n+size <= 255 {
				goodName(t, once, size, head+tail)
				goodName(t, twice, size+2, head+tail)
			} else {
				noName(t, once, size, api.ErrName)
				noName(t, twice, size+2, api.ErrName)
			}
		}
	}
	// Of 255 and of 256 bytes, in three parts.
	s := labels(63, 62) + root + labels(63, 20) + to(0)
	goodName(t, s+labels(41)+to(128), len(s), labels(41, 63, 20, 63, 62)+root)
	noName(t, s+labels(42)+to(128), len(s), api.ErrName)
}

func TestNameTooLongAtItsLabel(t *testing.T) {
	full, over := labels(63, 63, 63, 61), labels(63, 63, 63, 62)
	for _, behind := range []string{"", root, "\x40", "\xbf", "\xc0", "\xc0\x00", "\xff\xff", "\x05", a} {
		noName(t, over+behind, 0, api.ErrName)
		noName(t, full+"\x01a"+behind, 0, api.ErrName)
		noName(t, over+behind+to(0), 255+len(behind), api.ErrName)
		noName(t, "\x01a"+behind+full+to(0), 2+len(behind), api.ErrName)
	}
	// One byte less, and what stands behind is told.
	noName(t, full, 0, api.ErrShort)
	noName(t, full+"\x40", 0, api.ErrLabel)
	noName(t, full+"\xbf"+zs(200), 0, api.ErrLabel)
	noName(t, full+"\xc0", 0, api.ErrShort)
	noName(t, full+"\xc0\x00", 0, api.ErrPointer)
	goodName(t, root+full+"\xc0\x00", 1, full+root)
	// Of a label that isn't there as a whole bytes are lacking, first of all.
	noName(t, full+"\x01", 0, api.ErrShort)
	noName(t, full+"\x3f"+zs(62), 0, api.ErrShort)
	noName(t, over[:len(over)-1], 0, api.ErrShort)
	// What stands further in front is told.
	noName(t, "\x40"+over, 0, api.ErrLabel)
	noName(t, "\x01a\x40"+over, 0, api.ErrLabel)
	noName(t, "\xc0\x00"+over, 0, api.ErrPointer)
	noName(t, labels(63, 63, 63)+to(0), 64, api.ErrName)
	noName(t, labels(63, 63, 61)+to(0), 64, api.ErrName)
	noName(t, labels(63, 63, 63)+to(0), 0, api.ErrPointer)
}

func TestPlacesOfPointers(t *testing.T) {
	roots := strings.Repeat(root, 600)
	for _, part := range []int{0, 1, 2, 3, 100, 255, 256, 257, 511, 512} {
		for _, head := range []string{"", "\x01b", label(63)} {
			for place := range part + 70 {
				s := roots[:part] + head + to(place) + roots
				if place < part {
					checkName(t, s, part, head+root, part+len(head)+2, api.OK)
				} else {
					noName(t, s, part, api.ErrPointer)
				}
			}
			noName(t, roots[:part]+head+to(16383)+strings.Repeat(root, 17000), part, api.ErrPointer)
		}
	}
}

func TestPointersToPointers(t *testing.T) {
	// The part that a pointer leads to begins at its place: the next one goes below that.
	for second := range 20 {
		s := strings.Repeat(root, 10) + "\x01b" + to(second) + "\x01c" + to(10)
		if second < 10 {
			goodName(t, s, 14, "\x01c\x01b\x00")
		} else {
			noName(t, s, 14, api.ErrPointer)
		}
	}
	// A part may begin within another's bytes.
	goodName(t, "\x00\x03a\x01b\xc0\x00\x01c\xc0\x03", 7, "\x01c\x01b\x00")
	noName(t, "\x00\x03a\x01b\xc0\x03\x01c\xc0\x03", 7, api.ErrPointer)
	// A part may go on over the place from which a pointer led to it.
	checkName(t, "\x03ab\xc0\x00\x00", 3, "\x03ab\xc0\x00", 5, api.OK)
	noName(t, "\x04wxyz\xc0\x00", 5, api.ErrPointer)
	noName(t, "\x02xy\x01b\xc0\x00", 3, api.ErrPointer)
	// One that leads to itself, two that lead to each other, three in a ring.
	noName(t, root+to(1), 1, api.ErrPointer)
	noName(t, to(2)+to(0), 0, api.ErrPointer)
	noName(t, to(2)+to(0), 2, api.ErrPointer)
	noName(t, to(4)+to(0)+to(2), 4, api.ErrPointer)
	noName(t, to(2)+to(4)+to(0), 4, api.ErrPointer)
}

func TestGreatestPointer(t *testing.T) {
	s := zs(16383) + a
	goodName(t, s+to(16383), len(s), a)
	goodName(t, s+"\x01b"+to(16383), len(s), "\x01b"+a)
	// 16384 is beyond all pointers: the z in front of it is led to.
	noName(t, zs(16384)+a+to(16383), 16387, api.ErrLabel)
	// Both of a pointer's bytes tell its place.
	s = zs(256) + a + zs(700) + ex
	goodName(t, s+to(256), len(s), a)
	goodName(t, s+to(959), len(s), ex)
	for _, size := range []int{65535, 65536, 1 << 20} {
		s := a + zs(size-len(a)-len(ex)) + ex
		goodName(t, s, size-len(ex), ex)
		goodName(t, s+to(0), size, a)
	}
}

func TestNamesCutOff(t *testing.T) {
	for _, c := range []struct {
		s    string
		at   int
		want string
	}{
		{a, 0, a}, {ex, 0, ex}, {longest(), 0, longest()}, {"zz" + ex, 2, ex}, {a + ex[:7] + to(0), 3, ex[:7] + a}, {a + to(0), 3, a}, {a + to(0) + "\x01b" + to(3), 5, "\x01b" + a},
	} {
		goodName(t, c.s, c.at, c.want)
		for n := range len(c.s) {
			noName(t, c.s[:n], c.at, api.ErrShort)
		}
	}
	// Behind a pointer, too, bytes are lacking at the end of all.
	for n := 4; n <= 63; n++ {
		noName(t, string([]byte{byte(n)})+"ab"+to(0), 3, api.ErrShort)
	}
	// A pointer of one byte lacks the other, wherever it may lead.
	noName(t, root+"\xc0", 1, api.ErrShort)
	noName(t, root+"\xff", 1, api.ErrShort)
}

// P6.3: as many steps as labels and pointers, and every pointer goes back.

// chain is the root, which stands at a place, and behind it so many pointers, each to the one in front of it.
func chain(at, pointers int) string {
	var b strings.Builder
	b.WriteString(root)
	last := at
	for range pointers {
		next := at + b.Len()
		b.WriteString(to(last))
		last = next
	}
	return b.String()
}

func TestLongestChain(t *testing.T) {
	s := chain(0, 8192)
	goodName(t, s, len(s)-2, root)
	goodName(t, s+"\x01b"+to(len(s)-2), len(s), "\x01b\x00")
	// Where it begins no root stands, but a pointer that leads forward: all of it is gone through in vain.
	noName(t, "\xc0"+s[1:], len(s)-2, api.ErrPointer)
}

func TestStepsOfNames(t *testing.T) {
	few, many := chain(0, 1000), chain(0, 8000)
	// Of many tries the fastest: a machine that has other work, too, doesn't matter.
	fastest := func(s string) time.Duration {
		least := time.Duration(math.MaxInt64)
		for range 50 {
			start := time.Now()
			dnsread.Name(s, len(s)-2)
			least = min(least, time.Since(start))
		}
		return least
	}
	for range 5 {
		// In as many steps as there are pointers it is eight times as long; were each one's way gone anew, 64 times.
		if fastest(many) < 24*fastest(few) {
			return
		}
	}
	t.Errorf("1000 pointers take %v, 8000 take %v", fastest(few), fastest(many))
}

func TestMessageOfLongChains(t *testing.T) {
	const pointers = 8000
	last := dataAt + 1 + 2*(pointers-1)
	s := numbers(0, 1, 0, 250) + record(root, 99, hour, chain(dataAt, pointers)) + strings.Repeat(record("\x01b"+to(last), api.TypeMX, hour, "\x00\x07\x01c"+to(last)), 250)
	m, e := dnsread.Read(s)
	if e != api.OK || len(m.Additional) != 250 {
		t.Fatal(e, len(m.Additional))
	}
	for _, r := range m.Additional {
		if r.Name != "\x01b\x00" || r.Names[0] != "\x01c\x00" {
			t.Errorf("%#v", r)
		}
	}
}
