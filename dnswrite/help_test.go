package dnswrite_test

import (
	"fmt"
	"math"
	"slices"
	"strings"
	"testing"

	"nuncio/api"
	"nuncio/dnsread"
	"nuncio/dnswrite"
	"nuncio/rdata"
)

const (
	root = "\x00"
	a    = "\x01a\x00"
	ex   = "\x02ex\x00"
	www  = "\x03www\x02ex\x00"
	hour = 3600
	// begin is the place behind a message's six numbers.
	begin = 12
	// bare are the bytes of a record of the root's name but for its data.
	bare = 11
)

// zs is a text of so many bytes.
func zs(n int) string { return strings.Repeat("z", n) }

// label is the bytes of a label of so many bytes.
func label(n int) string { return string([]byte{byte(n)}) + zs(n) }

// longest is a name of 255 bytes.
func longest() string { return label(63) + label(63) + label(63) + label(61) + root }

// two is a number in two bytes.
func two(n int) string { return string([]byte{byte(n >> 8), byte(n)}) }

// four is a number in four bytes.
func four(n uint32) string { return two(int(n>>16)) + two(int(n&65535)) }

// to is a pointer to a place.
func to(place int) string { return two(49152 + place) }

// numbers are a message's six, of the ID and the Flags that message has.
func numbers(counts ...int) string {
	s := "\x12\x34\x81\x80"
	for _, n := range counts {
		s += two(n)
	}
	return s
}

// message is one of these answers.
func message(answers ...api.Record) api.Message {
	return api.Message{ID: 0x1234, Flags: 0x8180, Answers: answers}
}

// asked is a question's bytes.
func asked(name string) string { return name + "\x00\x01\x00\x01" }

// questions ask for these names.
func questions(names ...string) []api.Question {
	var all []api.Question
	for _, n := range names {
		all = append(all, api.Question{Name: n, Type: 1, Class: 1})
	}
	return all
}

// record is a record's bytes.
func record(name string, kind uint16, data string) string {
	return name + two(int(kind)) + two(1) + four(hour) + two(len(data)) + data
}

// one is a record of that type, without data.
func one(name string, kind uint16) api.Record {
	return api.Record{Name: name, Type: kind, Class: 1, TTL: hour}
}

// naming is a record whose data has these names, and for its numbers 0.
func naming(name string, kind uint16, names ...string) api.Record {
	r := one(name, kind)
	_, nums, _ := rdata.Shape(kind)
	r.Names, r.Nums = names, make([]uint32, nums)
	return r
}

// holding is a record whose data has these texts.
func holding(name string, kind uint16, texts ...string) api.Record {
	r := one(name, kind)
	r.Texts = texts
	return r
}

// addresses are records of the type A of these names.
func addresses(names ...string) []api.Record {
	var all []api.Record
	for _, n := range names {
		all = append(all, holding(n, api.TypeA, "abcd"))
	}
	return all
}

// address is the bytes of such a record.
func address(name string) string { return record(name, api.TypeA, "abcd") }

// filler is a record of the root's name that takes so many bytes, 11 or more.
func filler(n int) api.Record { return holding(root, 99, zs(n-bare)) }

// filled is the bytes of such a record.
func filled(n int) string { return record(root, 99, zs(n-bare)) }

// others are types of which the document says nothing of their own, OPT among them.
func others() []uint16 {
	return []uint16{0, 3, 4, 7, 11, 13, 14, 17, 27, 29, 32, 34, 40, api.TypeOPT, 42, 99, 255, 256, 257, 258, 261, 262, 268, 271, 272, 284, 289, 65535}
}

// right is a record of a type, and its bytes, in which no name can be a pointer, if it stands first in a message.
func right(kind uint16) (api.Record, string) {
	r := one(www, kind)
	data := "any\x00bytes\xff"
	switch kind {
	case 2, 5, 12:
		data = "\x01a\x01b\x00"
		r.Names = []string{data}
	case 6:
		r.Names, r.Nums = []string{"\x01a\x01b\x00", "\x01b\x01a\x00"}, []uint32{0x01020304, 0, math.MaxUint32, 1 << 31, 7}
		data = "\x01a\x01b\x00\x01b\x01a\x00" + four(0x01020304) + four(0) + four(math.MaxUint32) + four(1<<31) + four(7)
	case 15:
		r.Names, r.Nums = []string{"\x01a\x01b\x00"}, []uint32{0xfffe}
		data = "\xff\xfe\x01a\x01b\x00"
	case 33:
		r.Names, r.Nums = []string{"\x01a\x01b\x00"}, []uint32{258, 0, 65535}
		data = "\x01\x02\x00\x00\xff\xff\x01a\x01b\x00"
	case 1:
		data = "\x01\x00\xc0\xff"
		r.Texts = []string{data}
	case 28:
		data = "0123456789abcde\xff"
		r.Texts = []string{data}
	case 16:
		r.Texts = []string{"ab", "", zs(255), "\xc0"}
		data = "\x02ab\x00\xff" + zs(255) + "\x01\xc0"
	default:
		r.Texts = []string{data}
	}
	return r, record(www, kind, data)
}

// show is a text as it is told of, cut off if it is long.
func show(s string) string {
	if len(s) > 300 {
		return fmt.Sprintf("%q.. (%d bytes)", s[:300], len(s))
	}
	return fmt.Sprintf("%q", s)
}

// tell is a message as it is told of.
func tell(m api.Message) string { return fmt.Sprintf("%.300s", fmt.Sprintf("%#v", m)) }

// alike: are two messages?
func alike(m, n api.Message) bool {
	return m.ID == n.ID && m.Flags == n.Flags && slices.Equal(m.Questions, n.Questions) && slices.EqualFunc(m.Answers, n.Answers, rdata.Same) &&
		slices.EqualFunc(m.Authority, n.Authority, rdata.Same) && slices.EqualFunc(m.Additional, n.Additional, rdata.Same)
}

// written fails if a message isn't written as these bytes, or isn't read out of them again.
func written(t *testing.T, m api.Message, want string) {
	t.Helper()
	if e := dnswrite.Check(m); e != api.OK {
		t.Errorf("Check(%s) = %d", tell(m), e)
	}
	s, e := dnswrite.Write(m)
	if s != want || e != api.OK {
		t.Errorf("Write(%s) =\n%s, %d, want\n%s", tell(m), show(s), e, show(want))
	}
	if n, e := dnsread.Read(s); e != api.OK || !alike(n, m) {
		t.Errorf("%s is read as %s, %d, want %s", show(s), tell(n), e, tell(m))
	}
}

// refused fails if Check and Write don't tell that error, and nothing else.
func refused(t *testing.T, m api.Message, want api.Errno) {
	t.Helper()
	if e := dnswrite.Check(m); e != want {
		t.Errorf("Check(%s) = %d, want %d", tell(m), e, want)
	}
	if s, e := dnswrite.Write(m); s != "" || e != want {
		t.Errorf("Write(%s) = %s, %d, want %d", tell(m), show(s), e, want)
	}
}

// long fails if a message isn't one that is right and too long.
func long(t *testing.T, m api.Message) {
	t.Helper()
	if e := dnswrite.Check(m); e != api.OK {
		t.Errorf("Check(%s) = %d", tell(m), e)
	}
	if s, e := dnswrite.Write(m); s != "" || e != api.ErrLong {
		t.Errorf("Write(%s) = %s, %d", tell(m), show(s), e)
	}
}
