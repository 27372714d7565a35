package dnsread_test

import (
	"fmt"
	"math"
	"slices"
	"strings"
	"testing"

	"nuncio/api"
	"nuncio/dnsread"
	"nuncio/rdata"
)

const (
	root = "\x00"
	a    = "\x01a\x00"
	ex   = "\x03www\x02Ex\x00"
	hour = 3600
)

// zs is a text of so many bytes.
func zs(n int) string { return strings.Repeat("z", n) }

// label is the bytes of a label of so many bytes, whether it may be or not.
func label(n int) string { return string([]byte{byte(n)}) + zs(n) }

// labels are the bytes of labels of these sizes.
func labels(sizes ...int) string {
	s := ""
	for _, n := range sizes {
		s += label(n)
	}
	return s
}

// filled are labels whose bytes are so many, 2 or more.
func filled(n int) string {
	s := ""
	for n-len(s) > 64 {
		s += label(61)
	}
	return s + label(n-len(s)-1)
}

// longest is a name of 255 bytes.
func longest() string { return labels(63, 63, 63, 61) + root }

// two is a number in two bytes.
func two(n int) string { return string([]byte{byte(n >> 8), byte(n)}) }

// four is a number in four bytes.
func four(n uint32) string { return two(int(n>>16)) + two(int(n&65535)) }

// to is a pointer to a place.
func to(place int) string { return two(49152 + place) }

// begin is the place behind a message's six numbers.
const begin = 12

// numbers are these six.
func numbers(counts ...int) string {
	s := "\x12\x34\x81\x80"
	for _, n := range counts {
		s += two(n)
	}
	return s
}

// asked is a question's bytes.
func asked(name string) string { return name + "\x00\x01\x00\x01" }

// record is a record's bytes.
func record(name string, kind uint16, ttl uint32, data string) string {
	return name + two(int(kind)) + two(1) + four(ttl) + two(len(data)) + data
}

// dataAt is the place of the data in the message that alone makes.
const dataAt = begin + 11

// alone is a message of one answer, of the root's name.
func alone(kind uint16, data string) string {
	return numbers(0, 1, 0, 0) + record(root, kind, hour, data)
}

// others are types of which the document says nothing of their own, OPT among them.
func others() []uint16 {
	return []uint16{0, 3, 4, 7, 11, 13, 14, 17, 27, 29, 32, 34, 40, api.TypeOPT, 42, 99, 255, 256, 257, 258, 261, 262, 268, 271, 272, 284, 289, 65535}
}

// kinds are the types that have a shape of their own, and others.
func kinds() []uint16 { return append([]uint16{1, 2, 5, 6, 12, 15, 16, 28, 33}, others()...) }

// right is a record of a type as it is read, and its data's bytes without pointers.
func right(kind uint16) (api.Record, string) {
	r := api.Record{Name: ex, Type: kind, Class: 1, TTL: hour}
	switch kind {
	case 2, 5, 12:
		r.Names = []string{ex}
		return r, ex
	case 6:
		r.Names, r.Nums = []string{ex, a}, []uint32{0x01020304, 0, math.MaxUint32, 1 << 31, 7}
		return r, ex + a + four(0x01020304) + four(0) + four(math.MaxUint32) + four(1<<31) + four(7)
	case 15:
		r.Names, r.Nums = []string{ex}, []uint32{0xfffe}
		return r, "\xff\xfe" + ex
	case 33:
		r.Names, r.Nums = []string{ex}, []uint32{258, 0, 65535}
		return r, "\x01\x02\x00\x00\xff\xff" + ex
	case 1:
		r.Texts = []string{"\x01\x00\xc0\xff"}
		return r, "\x01\x00\xc0\xff"
	case 28:
		r.Texts = []string{"0123456789abcde\xff"}
		return r, "0123456789abcde\xff"
	case 16:
		r.Texts = []string{"ab", "", zs(255), "\xc0"}
		return r, "\x02ab\x00\xff" + zs(255) + "\x01\xc0"
	}
	r.Texts = []string{"any\x00bytes\xff"}
	return r, "any\x00bytes\xff"
}

// show is a text as it is told of, cut off if it is long.
func show(s string) string {
	if len(s) > 120 {
		return fmt.Sprintf("%q.. (%d bytes)", s[:120], len(s))
	}
	return fmt.Sprintf("%q", s)
}

// alike: are two messages?
func alike(m, n api.Message) bool {
	return m.ID == n.ID && m.Flags == n.Flags && slices.Equal(m.Questions, n.Questions) && slices.EqualFunc(m.Answers, n.Answers, rdata.Same) &&
		slices.EqualFunc(m.Authority, n.Authority, rdata.Same) && slices.EqualFunc(m.Additional, n.Additional, rdata.Same)
}

// checkName fails if Name tells another name, place or error.
func checkName(t *testing.T, s string, at int, want string, next int, e api.Errno) {
	t.Helper()
	if got, n, g := dnsread.Name(s, at); got != want || n != next || g != e {
		t.Errorf("Name(%s, %d) = %s, %d, %d, want %s, %d, %d", show(s), at, show(got), n, g, show(want), next, e)
	}
}

// goodName fails if Name doesn't tell that name, ending at the end of s.
func goodName(t *testing.T, s string, at int, want string) {
	t.Helper()
	checkName(t, s, at, want, len(s), api.OK)
}

// noName fails if Name doesn't tell that error, and nothing else.
func noName(t *testing.T, s string, at int, want api.Errno) {
	t.Helper()
	checkName(t, s, at, "", 0, want)
}

// checkRead fails if Read tells another message or error.
func checkRead(t *testing.T, s string, want api.Message, e api.Errno) {
	t.Helper()
	if m, g := dnsread.Read(s); g != e || !alike(m, want) {
		t.Errorf("Read(%s) = %.300s, %d, want %.300s, %d", show(s), fmt.Sprintf("%#v", m), g, fmt.Sprintf("%#v", want), e)
	}
}

// noMessage fails if Read doesn't tell that error, and nothing else.
func noMessage(t *testing.T, s string, want api.Errno) {
	t.Helper()
	checkRead(t, s, api.Message{}, want)
}

// goodData fails if these aren't read out of a record's data, in the message that alone makes.
func goodData(t *testing.T, kind uint16, data string, names []string, nums []uint32, texts ...string) {
	t.Helper()
	r := api.Record{Name: root, Type: kind, Class: 1, TTL: hour, Names: names, Nums: nums, Texts: texts}
	checkRead(t, alone(kind, data), api.Message{ID: 0x1234, Flags: 0x8180, Answers: []api.Record{r}}, api.OK)
}

// noData fails if a record's data isn't told as that error, in the message that alone makes.
func noData(t *testing.T, kind uint16, data string, want api.Errno) {
	t.Helper()
	noMessage(t, alone(kind, data), want)
}
