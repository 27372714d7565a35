package dnswrite_test

import (
	"math"
	"slices"
	"strings"
	"testing"

	"nuncio/api"
	"nuncio/dnswrite"
)

// P7.2: what isn't a name, and how long it all may be.

// joined are these bytes so many times.
func joined(s string, n int) string { return strings.Repeat(s, n) }

func TestNothingButNumbers(t *testing.T) {
	written(t, api.Message{}, joined(root, 12))
	written(t, api.Message{Questions: []api.Question{}, Answers: []api.Record{}, Authority: []api.Record{}, Additional: []api.Record{}}, joined(root, 12))
	written(t, message(), numbers(0, 0, 0, 0))
	for bit := range 16 {
		n := uint16(1) << bit
		written(t, api.Message{ID: n}, two(int(n))+joined(root, 10))
		written(t, api.Message{Flags: n}, two(0)+two(int(n))+joined(root, 8))
		written(t, api.Message{ID: 7, Flags: ^n}, two(7)+two(int(^n))+joined(root, 8))
	}
}

func TestTheExample(t *testing.T) {
	m := message(naming(www, api.TypeCNAME, "\x01a\x02ex\x00"))
	m.Questions = questions(www)
	written(t, m, numbers(1, 1, 0, 0)+asked(www)+record("\xc0\x0c", api.TypeCNAME, "\x01a\xc0\x10"))
}

func TestQuestions(t *testing.T) {
	m := message()
	m.Questions = []api.Question{{Name: www, Type: 0x0102, Class: 0xfefd}}
	written(t, m, numbers(1, 0, 0, 0)+www+"\x01\x02\xfe\xfd")
	m.Questions = []api.Question{{Name: root, Type: 255, Class: 65535}, {Name: longest(), Type: api.TypeOPT}, {Name: a}}
	written(t, m, numbers(3, 0, 0, 0)+root+"\x00\xff\xff\xff"+longest()+"\x00\x29\x00\x00"+a+"\x00\x00\x00\x00")
	for bit := range 16 {
		n := uint16(1) << bit
		m.Questions = []api.Question{{Name: a, Type: n, Class: ^n}, {Name: ex, Type: ^n, Class: n}}
		written(t, m, numbers(2, 0, 0, 0)+a+two(int(n))+two(int(^n))+ex+two(int(^n))+two(int(n)))
	}
}

func TestRecordsOfEveryType(t *testing.T) {
	for kind := range 1 << 16 {
		r, bytes := right(uint16(kind))
		written(t, message(r), numbers(0, 1, 0, 0)+bytes)
	}
}

func TestClassesAndTTLs(t *testing.T) {
	for bit := range 32 {
		n := uint32(1) << bit
		r := holding(a, api.TypeOPT, "z")
		r.Class, r.TTL = uint16(n), n
		written(t, message(r), numbers(0, 1, 0, 0)+a+two(41)+two(int(uint16(n)))+four(n)+two(1)+"z")
		r.Class, r.TTL = ^uint16(n), ^n
		written(t, message(r), numbers(0, 1, 0, 0)+a+two(41)+two(int(^uint16(n)))+four(^n)+two(1)+"z")
	}
}

func TestListsInTheirOrder(t *testing.T) {
	var all []api.Record
	var bytes []string
	for i, kind := range append([]uint16{1, 16, 28}, others()...) {
		r := holding(root, kind, "abcd")
		data := "abcd"
		switch kind {
		case api.TypeTXT:
			data = "\x04abcd"
		case api.TypeAAAA:
			data = joined("abcd", 4)
			r.Texts = []string{data}
		}
		r.Class, r.TTL = uint16(0x0100+i), uint32(0x01020300+i)
		all = append(all, r)
		bytes = append(bytes, root+two(int(kind))+two(0x0100+i)+four(uint32(0x01020300+i))+two(len(data))+data)
	}
	for i := range len(all) + 1 {
		for j := i; j <= len(all); j++ {
			m := api.Message{ID: 0x1234, Flags: 0x8180, Questions: questions(a, root), Answers: all[:i], Authority: all[i:j], Additional: all[j:]}
			written(t, m, numbers(2, i, j-i, len(all)-j)+asked(a)+asked(root)+strings.Join(bytes, ""))
		}
	}
}

func TestData(t *testing.T) {
	alone := func(r api.Record, data string) {
		t.Helper()
		r.Name, r.Class, r.TTL = root, 1, hour
		written(t, message(r), numbers(0, 1, 0, 0)+record(root, r.Type, data))
	}
	for _, n := range []string{root, a, www, "\x01.\x01\\\x00", "\x04\x00\x3f\xc0\xff\x00", longest(), joined("\x01z", 127) + root} {
		for _, kind := range []uint16{api.TypeNS, api.TypeCNAME, api.TypePTR} {
			alone(naming(root, kind, n), n)
		}
		alone(naming(root, api.TypeMX, n), two(0)+n)
		alone(naming(root, api.TypeSRV, n), joined(two(0), 3)+n)
		alone(naming(root, api.TypeSOA, n, root), n+root+joined(four(0), 5))
		alone(naming(root, api.TypeSOA, root, n), root+n+joined(four(0), 5))
	}
	for bit := range 32 {
		n := uint32(1) << bit
		alone(api.Record{Type: api.TypeSOA, Names: []string{a, ex}, Nums: []uint32{n, ^n, 1, n, 2}}, a+ex+four(n)+four(^n)+four(1)+four(n)+four(2))
		if n <= math.MaxUint16 {
			alone(api.Record{Type: api.TypeMX, Names: []string{a}, Nums: []uint32{n}}, two(int(n))+a)
			alone(api.Record{Type: api.TypeSRV, Names: []string{a}, Nums: []uint32{n, 1, 65535 - n}}, two(int(n))+two(1)+two(int(65535-n))+a)
		}
	}
	for n := range 256 {
		alone(holding(root, api.TypeTXT, zs(n)), label(n))
		alone(holding(root, api.TypeTXT, "a", zs(n), "b"), "\x01a"+label(n)+"\x01b")
		alone(holding(root, api.TypeA, string([]byte{byte(n), 0, 255, byte(n)})), string([]byte{byte(n), 0, 255, byte(n)}))
	}
	alone(holding(root, api.TypeTXT, ""), "\x00")
	alone(holding(root, api.TypeTXT, "", "", ""), "\x00\x00\x00")
	alone(holding(root, api.TypeTXT, slices.Repeat([]string{""}, 60000)...), joined("\x00", 60000))
	alone(holding(root, api.TypeAAAA, joined("\xff", 16)), joined("\xff", 16))
	for _, kind := range others() {
		for _, s := range []string{"", root, a, "\xc0\x00", zs(255), zs(256), zs(257), zs(65000)} {
			alone(holding(root, kind, s), s)
		}
	}
}

func TestAsLongAsMayBeWithoutPointers(t *testing.T) {
	for _, n := range []int{65535, 65534} {
		written(t, message(filler(n-begin)), numbers(0, 1, 0, 0)+filled(n-begin))
		written(t, message(filler(1000), filler(n-begin-1000)), numbers(0, 2, 0, 0)+filled(1000)+filled(n-begin-1000))
		m := message(filler(n - begin - 2*(len(ex)+4)))
		m.Questions = questions(ex, "\x02EX\x00")
		written(t, m, numbers(2, 1, 0, 0)+asked(ex)+asked("\x02EX\x00")+filled(n-begin-2*(len(ex)+4)))
		// Names that end it, all new.
		last := []api.Record{filler(n - begin - bare - len(longest())), naming(root, api.TypePTR, longest())}
		written(t, message(last...), numbers(0, 2, 0, 0)+filled(n-begin-bare-len(longest()))+record(root, api.TypePTR, longest()))
	}
	for n := 65536; n < 65536+bare; n++ {
		long(t, message(filler(n-begin)))
		long(t, message(filler(n-begin-65000), filler(65000)))
		long(t, api.Message{Authority: []api.Record{filler(n - begin - 65000)}, Additional: []api.Record{filler(65000)}})
		m := message(filler(n-begin-2*(len(ex)+4)-30000), filler(30000))
		m.Questions = questions(ex, "\x02EX\x00")
		long(t, m)
	}
	// Twice as long, so that two bytes would tell it as no more than may be.
	long(t, message(filler(65536-begin), filler(65536)))
	long(t, message(filler(65536-begin), filler(65536), filler(12)))
	// By one byte of a question alone, and of a name at the end.
	m := message(filler(65535 - begin - 5))
	m.Questions = questions(root)
	written(t, m, numbers(1, 1, 0, 0)+asked(root)+filled(65535-begin-5))
	m.Questions = questions(a)
	long(t, m)
	long(t, message(filler(65536-begin-bare-len(longest())), naming(root, api.TypePTR, longest())))
}

func TestAsLongAsMayBeWithPointers(t *testing.T) {
	n := longest()
	// 255 addresses of that name: without pointers they would be too long by far.
	m := message(addresses(slices.Repeat([]string{n}, 255)...)...)
	bytes := address(n) + joined(address(to(begin)), 254)
	written(t, m, numbers(0, 255, 0, 0)+bytes)
	rest := 65535 - begin - len(bytes)
	m.Additional = []api.Record{filler(rest)}
	written(t, m, numbers(0, 255, 0, 1)+bytes+filled(rest))
	m.Additional = []api.Record{filler(rest + 1)}
	long(t, m)
	// A pointer that ends the message.
	m.Additional = nil
	m.Answers = append(m.Answers[:253:253], filler(65535-begin-len(address(n))-252*16-bare-2), naming(root, api.TypePTR, n))
	written(t, m, numbers(0, 255, 0, 0)+address(n)+joined(address(to(begin)), 252)+filled(65535-begin-len(address(n))-252*16-bare-2)+record(root, api.TypePTR, to(begin)))
	m.Answers[253] = filler(65535 - begin - len(address(n)) - 252*16 - bare - 1)
	long(t, m)
}

func TestTooLongWhereNoPointerLeads(t *testing.T) {
	// Behind the place 16383 the same names take all their bytes.
	n := longest()
	names := addresses(slices.Repeat([]string{n}, 182)...)
	bytes := joined(address(n), 182)
	rest := 65535 - begin - len(bytes)
	if rest < 16384 {
		t.Fatal(rest)
	}
	written(t, message(append([]api.Record{filler(rest)}, names...)...), numbers(0, 183, 0, 0)+filled(rest)+bytes)
	long(t, message(append([]api.Record{filler(rest + 1)}, names...)...))
	if s, e := dnswrite.Write(message(append(names[:100:100], filler(rest+1))...)); e != api.OK || len(s) != begin+len(address(n))+99*16+rest+1 {
		t.Errorf("%d bytes, %d", len(s), e)
	}
}
