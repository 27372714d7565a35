package dnsread_test

import (
	"math"
	"slices"
	"strings"
	"testing"
	"unsafe"

	"nuncio/api"
	"nuncio/dnsread"
	"nuncio/rdata"
)

// P6.2: Read.

func TestNumbers(t *testing.T) {
	checkRead(t, strings.Repeat("\x00", 12), api.Message{}, api.OK)
	for bit := range 16 {
		n := uint16(1) << bit
		checkRead(t, two(int(n))+two(0x8180)+strings.Repeat("\x00", 8), api.Message{ID: n, Flags: 0x8180}, api.OK)
		checkRead(t, two(7)+two(int(n))+strings.Repeat("\x00", 8), api.Message{ID: 7, Flags: n}, api.OK)
	}
	checkRead(t, "\x01\x02\xfe\xfd"+strings.Repeat("\x00", 8), api.Message{ID: 0x0102, Flags: 0xfefd}, api.OK)
	for n := range 12 {
		noMessage(t, strings.Repeat("\x00", n), api.ErrShort)
		noMessage(t, strings.Repeat("\xff", n), api.ErrShort)
	}
}

func TestQuestions(t *testing.T) {
	head := api.Message{ID: 0x1234, Flags: 0x8180}
	one, two, three := head, head, head
	one.Questions = []api.Question{{Name: ex, Type: 0x0102, Class: 0xfefd}}
	checkRead(t, numbers(1, 0, 0, 0)+ex+"\x01\x02\xfe\xfd", one, api.OK)
	two.Questions = []api.Question{{Name: root, Type: 255, Class: 65535}, {Name: a}}
	checkRead(t, numbers(2, 0, 0, 0)+root+"\x00\xff\xff\xff"+a+"\x00\x00\x00\x00", two, api.OK)
	three.Questions = []api.Question{{Name: ex, Type: 1, Class: 1}, {Name: "\x01b\x02Ex\x00", Type: 1, Class: 1}, {Name: "\x01b\x02Ex\x00", Type: 1, Class: 1}}
	checkRead(t, numbers(3, 0, 0, 0)+asked(ex)+asked("\x01b"+to(begin+4))+asked(to(begin+len(ex)+4)), three, api.OK)
}

func TestRecordsOfEveryType(t *testing.T) {
	for kind := range 1 << 16 {
		r, data := right(uint16(kind))
		m, e := dnsread.Read(numbers(0, 1, 0, 0) + record(ex, uint16(kind), hour, data))
		if e != api.OK || len(m.Answers) != 1 || !rdata.Same(m.Answers[0], r) {
			t.Errorf("type %d: %#v, %d, want %#v", kind, m, e, r)
		}
	}
}

func TestListsOfRecords(t *testing.T) {
	var records []api.Record
	var all []string
	for i, kind := range kinds() {
		r, data := right(kind)
		r.Class, r.TTL = uint16(0x0100+i), uint32(0x01020300+i)
		records = append(records, r)
		all = append(all, ex+two(int(kind))+two(0x0100+i)+four(uint32(0x01020300+i))+two(len(data))+data)
	}
	for i := range len(all) + 1 {
		for j := i; j <= len(all); j++ {
			want := api.Message{ID: 0x1234, Flags: 0x8180, Questions: []api.Question{{Name: a, Type: 1, Class: 1}}, Answers: records[:i], Authority: records[i:j], Additional: records[j:]}
			checkRead(t, numbers(1, i, j-i, len(all)-j)+asked(a)+strings.Join(all, ""), want, api.OK)
		}
	}
}

func TestDataOfTypes(t *testing.T) {
	for _, kind := range []uint16{api.TypeNS, api.TypeCNAME, api.TypePTR} {
		for _, s := range good() {
			goodData(t, kind, s, []string{s}, nil)
		}
	}
	goodData(t, api.TypeA, "\x00\x00\x00\x00", nil, nil, "\x00\x00\x00\x00")
	goodData(t, api.TypeAAAA, strings.Repeat("\xff", 16), nil, nil, strings.Repeat("\xff", 16))
	goodData(t, api.TypeMX, "\x01\x02"+longest(), []string{longest()}, []uint32{258})
	goodData(t, api.TypeMX, "\xff\xff"+root, []string{root}, []uint32{65535})
	goodData(t, api.TypeSRV, "\x01\x02\x00\x00\xff\xfe"+longest(), []string{longest()}, []uint32{258, 0, 65534})
	goodData(t, api.TypeSOA, root+a+four(1)+four(1<<8)+four(1<<16)+four(1<<24)+four(1<<31), []string{root, a}, []uint32{1, 1 << 8, 1 << 16, 1 << 24, 1 << 31})
	goodData(t, api.TypeSOA, longest()+longest()+strings.Repeat("\xff", 20), []string{longest(), longest()}, slices.Repeat([]uint32{math.MaxUint32}, 5))
	goodData(t, api.TypeTXT, "\x00", nil, nil, "")
	goodData(t, api.TypeTXT, "\x00\x00\x00", nil, nil, "", "", "")
	goodData(t, api.TypeTXT, "\x01a\x00\x02\xc0\x00", nil, nil, "a", "", "\xc0\x00")
	goodData(t, api.TypeTXT, strings.Repeat("\xff"+zs(255), 200), nil, nil, slices.Repeat([]string{zs(255)}, 200)...)
	for n := range 256 {
		goodData(t, api.TypeTXT, label(n), nil, nil, zs(n))
		goodData(t, api.TypeTXT, "\x01a"+label(n)+"\x01b", nil, nil, "a", zs(n), "b")
	}
	for _, kind := range others() {
		for _, s := range []string{"", root, a, "\xc0\x00", zs(255), zs(256), zs(65000)} {
			goodData(t, kind, s, nil, nil, s)
		}
	}
}

func TestDataTooShortOrTooLong(t *testing.T) {
	for _, kind := range []uint16{api.TypeA, api.TypeNS, api.TypeCNAME, api.TypeSOA, api.TypePTR, api.TypeMX, api.TypeTXT, api.TypeAAAA, api.TypeSRV} {
		r, data := right(kind)
		if kind == api.TypeTXT {
			// Of one text: where one of several ends the data may end, too.
			r.Texts, data = []string{"ab"}, "\x02ab"
		}
		goodData(t, kind, data, r.Names, r.Nums, r.Texts...)
		for n := range len(data) {
			noData(t, kind, data[:n], api.ErrData)
			// The message goes on behind the data, with what the data lacks.
			noMessage(t, alone(kind, data[:n])+data[n:], api.ErrData)
		}
		for _, more := range []string{"\x01", "\x02a", "\xff", "\x40", "\xc0\x0c", "zz"} {
			noData(t, kind, data+more, api.ErrData)
		}
		if kind != api.TypeTXT {
			noData(t, kind, data+root, api.ErrData)
			noData(t, kind, data+data, api.ErrData)
			noData(t, kind, data+zs(500), api.ErrData)
		}
	}
	for n := range 300 {
		if n != 4 {
			noData(t, api.TypeA, strings.Repeat(root, n), api.ErrData)
		}
		if n != 16 {
			noData(t, api.TypeAAAA, strings.Repeat(root, n), api.ErrData)
		}
	}
}

func TestTextsThatLackBytes(t *testing.T) {
	for n := 1; n < 256; n++ {
		for _, ahead := range []string{"", "\x00", "\x01a", label(255)} {
			noData(t, api.TypeTXT, ahead+label(n)[:n], api.ErrData)
			noData(t, api.TypeTXT, ahead+label(n)[:1], api.ErrData)
			noMessage(t, alone(api.TypeTXT, ahead+label(n)[:n])+"z", api.ErrData)
		}
	}
	noData(t, api.TypeTXT, "", api.ErrData)
}

// spot is where a name stands in the data of a type: what stands ahead of it, and behind it.
type spot struct {
	kind          uint16
	ahead, behind string
}

// srv is what stands ahead of the name in SRV's data.
const srv = "\x00\x01\x00\x02\x00\x03"

// pointing are the spots of names that may have pointers.
func pointing() []spot {
	zeros := strings.Repeat(root, 20)
	return []spot{{api.TypeNS, "", ""}, {api.TypeCNAME, "", ""}, {api.TypePTR, "", ""}, {api.TypeMX, "\x00\x07", ""}, {api.TypeSOA, "", root + zeros}, {api.TypeSOA, root, zeros}}
}

// spots are those of all names.
func spots() []spot { return append(pointing(), spot{api.TypeSRV, srv, ""}) }

func TestPointersInData(t *testing.T) {
	head := numbers(1, 1, 0, 0) + asked(ex)
	for _, p := range pointing() {
		at := len(head) + 11 + len(p.ahead)
		read := func(data string) (api.Message, api.Errno) {
			return dnsread.Read(head + record(root, p.kind, hour, p.ahead+data+p.behind))
		}
		for data, want := range map[string]string{
			to(begin): ex, "\x01a" + to(begin): "\x01a" + ex, to(begin + 4): "\x02Ex\x00", to(begin + 7): root, "\x01b\x01a" + to(begin+4): "\x01b\x01a\x02Ex\x00", label(63) + to(len(head)): label(63) + root, to(10): root,
		} {
			if m, e := read(data); e != api.OK || len(m.Answers) != 1 || !slices.Contains(m.Answers[0].Names, want) {
				t.Errorf("type %d, %q: %#v, %d, want %q", p.kind, data, m, e, want)
			}
		}
		// The name's begin, and places above it.
		for _, data := range []string{to(at), to(at + 1), to(at + 2), "\x01a" + to(at), "\x01a" + to(at+1), "\x01a" + to(at+2), "\x01a" + to(at+4), to(16383)} {
			if m, e := read(data); e != api.ErrPointer || len(m.Questions) > 0 {
				t.Errorf("type %d, %q: %#v, %d", p.kind, data, m, e)
			}
		}
	}
}

func TestPointersWithinData(t *testing.T) {
	zeros, five := strings.Repeat("\x00", 20), make([]uint32, 5)
	goodData(t, api.TypeSOA, ex+to(dataAt)+zeros, []string{ex, ex}, five)
	goodData(t, api.TypeSOA, ex+"\x01b"+to(dataAt+4)+zeros, []string{ex, "\x01b\x02Ex\x00"}, five)
	goodData(t, api.TypeSOA, to(begin)+to(dataAt)+zeros, []string{root, root}, five)
	goodData(t, api.TypeSOA, "\x01b"+to(begin)+"\x01a"+to(dataAt)+zeros, []string{"\x01b\x00", "\x01a\x01b\x00"}, five)
	noData(t, api.TypeSOA, a+to(dataAt+3)+zeros, api.ErrPointer)
	noData(t, api.TypeSOA, to(dataAt+2)+a+zeros, api.ErrPointer)
	// A byte of a number may be led to: the second one of MX's 0, but no more the name itself.
	goodData(t, api.TypeMX, "\x00\x00"+to(dataAt+1), []string{root}, []uint32{0})
	noData(t, api.TypeMX, "\x00\x00"+to(dataAt+2), api.ErrPointer)
	// What a pointer leads to may go on behind the data: here a label of 3, 5 or 2 bytes, whose first ones are the pointer.
	s := numbers(0, 2, 0, 0) + record(root, api.TypeMX, hour, "\x00\x03"+to(dataAt+1)) + record(root, 99, hour, "")
	if m, e := dnsread.Read(s); e != api.OK || m.Answers[0].Names[0] != "\x03"+to(dataAt+1)+"\x00\x00" {
		t.Errorf("%#v, %d", m, e)
	}
	noData(t, api.TypeMX, "\x00\x05"+to(dataAt+1), api.ErrShort)
	noMessage(t, numbers(0, 2, 0, 0)+record(root, api.TypeMX, hour, "\x00\x02"+to(dataAt+1))+"\x40", api.ErrLabel)
}

func TestNameOfSRV(t *testing.T) {
	for _, s := range good() {
		goodData(t, api.TypeSRV, srv+s, []string{s}, []uint32{1, 2, 3})
	}
	for _, behind := range []string{"", "\x00", "zz"} {
		for _, place := range []int{0, 4, begin, dataAt, dataAt + 6, dataAt + 7, 16383} {
			noData(t, api.TypeSRV, srv+to(place)+behind, api.ErrData)
			noData(t, api.TypeSRV, srv+"\x01a"+to(place)+behind, api.ErrData)
			noData(t, api.TypeSRV, srv+labels(63, 63, 63, 61)+to(place)+behind, api.ErrData)
			noData(t, api.TypeSRV, srv+labels(63, 63, 63, 62)+to(place)+behind, api.ErrName)
			noData(t, api.TypeSRV, srv+"\x40"+to(place)+behind, api.ErrLabel)
			noData(t, api.TypeSRV, srv+"\x01a\xbf"+to(place)+behind, api.ErrLabel)
		}
		noData(t, api.TypeSRV, srv+"\xc0", api.ErrData)
		noData(t, api.TypeSRV, srv+"\x01a\xff", api.ErrData)
	}
}

func TestNamesEndWithinData(t *testing.T) {
	for _, p := range pointing() {
		for _, ends := range []string{root, a, longest(), to(begin), "\x01a" + to(begin), labels(63, 63, 63, 60) + to(begin)} {
			if p.kind != api.TypeSOA {
				// At the data's end.
				if m, e := dnsread.Read(alone(p.kind, p.ahead+ends)); e != api.OK || len(m.Answers[0].Names) != 1 {
					t.Errorf("type %d, %q: %d", p.kind, ends, e)
				}
			}
			// One byte behind it: the message has the last byte, the data hasn't.
			noMessage(t, alone(p.kind, p.ahead+ends[:len(ends)-1])+ends[len(ends)-1:]+p.behind, api.ErrData)
			noMessage(t, alone(p.kind, p.ahead+ends[:len(ends)-1])+record(root, 99, hour, ""), api.ErrData)
		}
	}
	for _, p := range spots() {
		for _, head := range []string{p.ahead, p.ahead + "\x01a", p.ahead + label(63)} {
			// A byte 64 to 191 ends the name as well: within the data it is told, behind it not.
			for _, c := range []string{"\x40", "\x7f", "\x80", "\xbf"} {
				noData(t, p.kind, head+c, api.ErrLabel)
				noData(t, p.kind, head+c+p.behind, api.ErrLabel)
				noData(t, p.kind, head+c+zs(300), api.ErrLabel)
				noMessage(t, alone(p.kind, head)+c, api.ErrData)
			}
			noData(t, p.kind, head, api.ErrData)
			noMessage(t, alone(p.kind, head)+"\xc0\xff", api.ErrData)
			noMessage(t, alone(p.kind, head+"\x01")+a, api.ErrData)
			noMessage(t, alone(p.kind, head+"\x3f"+zs(62))+"\x00", api.ErrData)
			noMessage(t, alone(p.kind, head+"\x3f"+zs(62))+"z\x40", api.ErrData)
			noMessage(t, alone(p.kind, head+"\xc0")+"\x0c", api.ErrData)
			noMessage(t, alone(p.kind, head+"\xff")+"\xff", api.ErrData)
		}
	}
}

// tooLong are labels with which a name would be too long.
func tooLong() []string {
	full := labels(63, 63, 63, 61)
	return []string{labels(63, 63, 63, 62), labels(63, 63, 63, 63), full + "\x01a", full + labels(63, 63, 1), strings.Repeat("\x01a", 128), strings.Repeat("\x01a", 15000)}
}

func TestNamesTooLongInData(t *testing.T) {
	for _, p := range spots() {
		for _, over := range tooLong() {
			// It ends within the data: told at its label, whatever ends it, and stands behind that.
			for _, ends := range []string{root, "\x40", "\x7f", "\x80", "\xbf", "\xc0\x0c", "\xff\xff", "\x01a" + root, label(63) + "\x40", label(63) + "\xc0\x00"} {
				noData(t, p.kind, p.ahead+over+ends, api.ErrName)
				noData(t, p.kind, p.ahead+over+ends+p.behind, api.ErrName)
				noData(t, p.kind, p.ahead+over+ends+"zz", api.ErrName)
			}
			// It doesn't: that is told first, whatever stands behind the data.
			for _, open := range []string{"", "\x01a", label(63), label(9) + label(2), "\x05", "\x01a\x05zzzz", "\x3f" + zs(62), "\x3f", "\xc0", "\xff", "\x01a\xc0"} {
				s := alone(p.kind, p.ahead+over+open)
				noMessage(t, s, api.ErrData)
				for _, behind := range []string{root, "\x40", "\x0c", "z" + root, to(begin), a, record(root, 99, hour, "")} {
					noMessage(t, s+behind, api.ErrData)
				}
			}
		}
		// Nor where the label itself isn't in the data as a whole, or the name isn't too long yet.
		full := labels(63, 63, 63, 61)
		for _, open := range []string{tooLong()[0][:254], full + "\x01", full, full + "\xc0"} {
			noData(t, p.kind, p.ahead+open, api.ErrData)
			noMessage(t, alone(p.kind, p.ahead+open)+a, api.ErrData)
			noMessage(t, alone(p.kind, p.ahead+open)+"z"+root, api.ErrData)
		}
		// What stands in front of it.
		noData(t, p.kind, p.ahead+"\x01a\x40"+tooLong()[0], api.ErrLabel)
		noData(t, p.kind, p.ahead+"\x40"+tooLong()[0], api.ErrLabel)
	}
	for _, p := range pointing() {
		noData(t, p.kind, p.ahead+"\xff\xff"+tooLong()[0], api.ErrPointer)
	}
	for _, over := range tooLong() {
		// Of SOA's two names the first that is wrong is told.
		noData(t, api.TypeSOA, over+root+over, api.ErrName)
		noData(t, api.TypeSOA, over+to(0)+"\x05", api.ErrName)
		noData(t, api.TypeSOA, to(9000)+over, api.ErrPointer)
		noData(t, api.TypeSOA, "\x40"+over, api.ErrLabel)
		noData(t, api.TypeSOA, root+over, api.ErrData)
		// Ahead of its record's TTL.
		noMessage(t, numbers(0, 1, 0, 0)+record(root, api.TypeNS, 1<<31, over), api.ErrData)
		noMessage(t, numbers(0, 1, 0, 0)+record(root, api.TypeNS, 1<<31, over+root), api.ErrName)
		// Outside of data it is told at its label, whether it ends or not.
		for _, open := range []string{"", "\x05", "\xc0", "\x01a", "\x40", root} {
			noMessage(t, numbers(1, 0, 0, 0)+over+open, api.ErrName)
			noMessage(t, numbers(0, 1, 0, 0)+over+open, api.ErrName)
		}
		// So, too, where a pointer leads: the name ended within the data with it.
		for _, p := range pointing() {
			noMessage(t, numbers(0, 2, 0, 0)+record(root, 99, hour, over)+record(root, p.kind, hour, p.ahead+to(dataAt)+p.behind), api.ErrName)
			noMessage(t, numbers(0, 2, 0, 0)+record(root, 99, hour, over)+record(root, p.kind, hour, p.ahead+"\x01a"+to(dataAt)+p.behind), api.ErrName)
		}
	}
	// By a pointer: 255 bytes, and 256.
	for _, p := range pointing() {
		s := numbers(1, 1, 0, 0) + asked(labels(63, 63, 61)+root) + record(root, p.kind, hour, p.ahead+label(63)+to(begin)+p.behind)
		if m, e := dnsread.Read(s); e != api.OK || !slices.Contains(m.Answers[0].Names, longest()) {
			t.Errorf("type %d: %d", p.kind, e)
		}
		noMessage(t, numbers(1, 1, 0, 0)+asked(labels(63, 63, 62)+root)+record(root, p.kind, hour, p.ahead+label(63)+to(begin)+p.behind), api.ErrName)
	}
}

func TestTTLs(t *testing.T) {
	for _, kind := range kinds() {
		for _, ttl := range []uint32{0, 1, 255, 256, 65536, 1<<31 - 2, 1<<31 - 1, 1 << 31, 1<<31 + 1, math.MaxUint32 - 1, math.MaxUint32} {
			r, data := right(kind)
			r.TTL = ttl
			m := api.Message{ID: 0x1234, Flags: 0x8180}
			for i, list := range []*[]api.Record{&m.Answers, &m.Authority, &m.Additional} {
				counts := make([]int, 4)
				counts[i+1] = 1
				s := numbers(counts...) + record(ex, kind, ttl, data)
				if ttl > 1<<31-1 && kind != api.TypeOPT {
					noMessage(t, s, api.ErrRange)
					continue
				}
				*list = []api.Record{r}
				checkRead(t, s, m, api.OK)
				*list = nil
			}
		}
	}
}

func TestBytesBehind(t *testing.T) {
	for _, s := range []string{numbers(0, 0, 0, 0), numbers(1, 0, 0, 0) + asked(ex), alone(1, "\x01\x02\x03\x04"), alone(99, ""), numbers(1, 0, 0, 1) + asked(a) + record(root, api.TypeOPT, 32768, "")} {
		if _, e := dnsread.Read(s); e != api.OK {
			t.Fatal(show(s), e)
		}
		for _, more := range []string{root, "\x40", "\xff", a, asked(ex), record(root, 1, hour, "\x01\x02\x03\x04"), s, zs(60000)} {
			noMessage(t, s+more, api.ErrMore)
		}
	}
}

func TestSizesOfMessages(t *testing.T) {
	most := api.MaxMessage - dataAt
	goodData(t, 99, zs(most), nil, nil, zs(most))
	goodData(t, 99, zs(most-1), nil, nil, zs(most-1))
	noData(t, 99, zs(most+1), api.ErrLong)
	noMessage(t, alone(99, zs(most))+"x", api.ErrLong)
	noMessage(t, alone(99, zs(most-1))+"x", api.ErrMore)
	for _, size := range []int{65536, 65537, 131072, 1 << 20} {
		for _, c := range []string{"\x00", "\xff", "\x40", "\xc0", "z"} {
			noMessage(t, strings.Repeat(c, size), api.ErrLong)
		}
		noMessage(t, numbers(1, 0, 0, 0)+"\x40"+zs(size), api.ErrLong)
	}
	noMessage(t, strings.Repeat("\x00", 65535), api.ErrMore)
	noMessage(t, strings.Repeat("\xff", 65535), api.ErrFull)
}

func TestHowManyThereMayBe(t *testing.T) {
	for _, counts := range [][]int{{256, 0, 0, 0}, {0, 256, 0, 0}, {0, 0, 256, 0}, {0, 0, 0, 256}, {64, 64, 64, 64}, {1, 255, 0, 0}, {1, 0, 254, 1}, {255, 0, 0, 1}, {100, 100, 55, 1}} {
		s := strings.Repeat(asked(root), counts[0]) + strings.Repeat(record(root, 99, hour, ""), 256-counts[0])
		m, e := dnsread.Read(numbers(counts...) + s)
		if e != api.OK || len(m.Questions) != counts[0] || len(m.Answers) != counts[1] || len(m.Authority) != counts[2] || len(m.Additional) != counts[3] {
			t.Errorf("%d: %d, %d, %d, %d, %d", counts, e, len(m.Questions), len(m.Answers), len(m.Authority), len(m.Additional))
		}
		for i := range counts {
			more := slices.Clone(counts)
			more[i]++
			noMessage(t, numbers(more...)+s, api.ErrFull)
			noMessage(t, numbers(more...)+asked(root)+s, api.ErrFull)
			noMessage(t, numbers(more...)+s+record(root, 99, hour, ""), api.ErrFull)
			noMessage(t, numbers(more...), api.ErrFull)
			noMessage(t, numbers(more...)[:begin-1], api.ErrShort)
		}
	}
	for _, counts := range [][]int{{257, 0, 0, 0}, {0, 0, 0, 512}, {0, 65535, 0, 0}, {65535, 1, 0, 0}, {32768, 32768, 0, 0}, {65535, 65535, 65535, 65535}, {16384, 16384, 16384, 16384}} {
		noMessage(t, numbers(counts...), api.ErrFull)
		noMessage(t, numbers(counts...)+"\x40", api.ErrFull)
		noMessage(t, numbers(counts...)+strings.Repeat(root, 60000), api.ErrFull)
	}
	// None there is: the places behind the numbers lack bytes.
	for i := range 4 {
		counts := make([]int, 4)
		counts[i] = 256
		noMessage(t, numbers(counts...), api.ErrShort)
		counts[i] = 1
		noMessage(t, numbers(counts...), api.ErrShort)
	}
}

// whole is a right message with all types, its names with and without pointers.
func whole() string {
	s := numbers(2, len(pointing()), len(pointing()), len(kinds())) + asked(ex) + asked("\x01b"+to(begin+4))
	for _, p := range pointing() {
		s += record(to(begin), p.kind, hour, p.ahead+"\x01c"+to(begin)+p.behind)
	}
	for _, p := range pointing() {
		s += record("\x01d"+to(begin+4), p.kind, hour, p.ahead+to(begin+4)+p.behind)
	}
	for _, kind := range kinds() {
		_, data := right(kind)
		s += record(to(begin+len(asked(ex))), kind, hour, data)
	}
	return s
}

func TestMessagesCutOff(t *testing.T) {
	s := whole()
	if m, e := dnsread.Read(s); e != api.OK || m.Additional[0].Name != "\x01b\x02Ex\x00" || m.Authority[2].Names[0] != "\x02Ex\x00" {
		t.Fatal(e)
	}
	for n := range len(s) {
		noMessage(t, s[:n], api.ErrShort)
	}
	noMessage(t, s+root, api.ErrMore)
}

func TestDataThatTheMessageLacks(t *testing.T) {
	// Its length tells more than there is: that is told, whatever stands in what is there.
	for _, kind := range kinds() {
		_, data := right(kind)
		for _, there := range []string{"", "\x40", "\xc0", "\xff\xff", zs(70), data, labels(63, 63, 63, 63)} {
			for _, more := range []int{1, 2, 255, 256, 60000} {
				for _, ttl := range []uint32{hour, math.MaxUint32} {
					noMessage(t, numbers(0, 1, 0, 0)+root+two(int(kind))+two(1)+four(ttl)+two(len(there)+more)+there, api.ErrShort)
				}
			}
		}
	}
}

// wrongNames are bytes in a name's place that end it, none of which may be one there, with their errors; what stands behind them doesn't matter.
var wrongNames = []struct {
	s string
	e api.Errno
}{
	{"\x40", api.ErrLabel}, {"\xbf", api.ErrLabel}, {"\x01a\x80", api.ErrLabel}, {"\xff\xff", api.ErrPointer}, {"\x01a\xff\xff", api.ErrPointer}, {labels(63, 63, 63, 62) + root, api.ErrName}, {labels(63, 63, 63, 61, 1) + root, api.ErrName},
}

func TestEachErrorByItself(t *testing.T) {
	address := "\x01\x02\x03\x04"
	for _, w := range wrongNames {
		noMessage(t, numbers(1, 0, 0, 0)+asked(w.s), w.e)
		noMessage(t, numbers(2, 0, 0, 0)+asked(ex)+asked(w.s), w.e)
	}
	// Of one question and two records the last one, in each of the three lists.
	for _, counts := range [][]int{{1, 2, 0, 0}, {1, 1, 1, 0}, {1, 1, 0, 1}, {1, 0, 1, 1}} {
		head := numbers(counts...) + asked(ex) + record(to(begin), 1, hour, address)
		for _, w := range wrongNames {
			noMessage(t, head+record(w.s, 1, hour, address), w.e)
			for _, p := range pointing() {
				noMessage(t, head+record(ex, p.kind, hour, p.ahead+w.s+p.behind), w.e)
			}
		}
		noMessage(t, head+record(ex, 1, hour, address[:3]), api.ErrData)
		noMessage(t, head+record(ex, 1, math.MaxUint32, address), api.ErrRange)
		noMessage(t, head, api.ErrShort)
		noMessage(t, head+record(ex, 1, hour, address)+root, api.ErrMore)
		noMessage(t, head+record(ex, 1, hour, address)+zs(65536), api.ErrLong)
		if _, e := dnsread.Read(head + record(ex, 1, hour, address)); e != api.OK {
			t.Errorf("%d: %d", counts, e)
		}
	}
}

// parts are those of a message, each as it is right and as it is wrong, with the error of that.
var parts = []struct {
	good, bad string
	e         api.Errno
}{
	{numbers(2, 3, 3, 2), numbers(2, 3, 3, 249), api.ErrFull},
	{asked(ex), asked("\x40"), api.ErrLabel},
	{asked(to(begin)), asked(to(9000)), api.ErrPointer},
	{record(to(begin), 1, hour, "\x01\x02\x03\x04"), record("\x01a\x40", 1, hour, "\x01\x02\x03\x04"), api.ErrLabel},
	{record(root, 1, hour, "\x01\x02\x03\x04"), record(root, 1, math.MaxUint32, "\x01\x02\x03"), api.ErrData},
	{record(root, 1, 5, "\x01\x02\x03\x04"), record(root, 1, 1<<31, "\x01\x02\x03\x04"), api.ErrRange},
	{record(root, 2, hour, to(begin)), record(root, 2, math.MaxUint32, "\x01a\xff\xff\x00"), api.ErrPointer},
	{record(root, 6, hour, strings.Repeat(root, 22)), record(root, 6, hour, root+labels(63, 63, 63, 63)+"\x40"), api.ErrName},
	{record(root, 33, hour, srv+a), record(root, 33, 1<<31, srv+to(begin)), api.ErrData},
	{record(root, 99, hour, ""), record(root, 99, math.MaxUint32, ""), api.ErrRange},
	{record(root, api.TypeOPT, 1<<31, ""), record(root, api.TypeOPT, 1<<31, "")[:10], api.ErrShort},
}

func TestFirstWrongPartIsTold(t *testing.T) {
	// Each choice of parts that are wrong.
	for choice := range 1 << len(parts) {
		s, want := "", api.OK
		for i, part := range parts {
			if choice>>i&1 == 0 {
				s += part.good
				continue
			}
			s += part.bad
			if want == api.OK {
				want = part.e
			}
		}
		if m, e := dnsread.Read(s); e != want || alike(m, api.Message{}) == (e == api.OK) {
			t.Errorf("wrong parts %b: %d, want %d", choice, e, want)
		}
		if want == api.OK {
			want = api.ErrMore
		}
		if want != api.ErrShort {
			noMessage(t, s+"more", want)
		}
	}
}

func TestFirstErrorInDataIsTold(t *testing.T) {
	for _, c := range []struct {
		kind uint16
		data string
		e    api.Errno
	}{
		{api.TypeNS, to(9000) + "left", api.ErrPointer}, {api.TypeNS, to(begin) + "left", api.ErrData}, {api.TypeMX, "\x00\x01\x40", api.ErrLabel}, {api.TypeMX, "\x40", api.ErrData}, {api.TypeMX, "\x40\x40", api.ErrData},
		{api.TypeSOA, "\x40", api.ErrLabel}, {api.TypeSOA, to(9000), api.ErrPointer}, {api.TypeSOA, root + "\x40", api.ErrLabel}, {api.TypeSOA, root + to(9000), api.ErrPointer}, {api.TypeSOA, root, api.ErrData}, {api.TypeSOA, "\x01a\x40" + to(9000), api.ErrLabel}, {api.TypeSOA, to(9000) + "\x40", api.ErrPointer}, {api.TypeSOA, labels(63, 63, 63, 63) + "\x40", api.ErrName},
		{api.TypeSRV, srv[:5], api.ErrData}, {api.TypeSRV, srv + "\x40", api.ErrLabel}, {api.TypeSRV, srv + to(9000) + "\x40", api.ErrData}, {api.TypeTXT, "\x40", api.ErrData}, {api.TypeA, "\x40", api.ErrData},
	} {
		// All of the data is read ahead of its record's TTL, and of what stands behind.
		for _, ttl := range []uint32{hour, 1 << 31} {
			s := numbers(0, 1, 0, 0) + record(root, c.kind, ttl, c.data)
			noMessage(t, s, c.e)
			noMessage(t, s+"more", c.e)
		}
	}
	for _, kind := range others() {
		s := numbers(0, 1, 0, 0) + record(root, kind, 1<<31, "\x40")
		want := api.ErrRange
		if kind == api.TypeOPT {
			want = api.ErrMore
		}
		noMessage(t, s+"more", want)
	}
}

// Answers are new memory.

// texts are all texts of a message that is read.
func texts(m api.Message) []string {
	var all []string
	for _, q := range m.Questions {
		all = append(all, q.Name)
	}
	for _, list := range [][]api.Record{m.Answers, m.Authority, m.Additional} {
		for _, r := range list {
			all = append(append(append(all, r.Name), r.Names...), r.Texts...)
		}
	}
	return all
}

// within: does a text stand in another's memory?
func within(s, memory string) bool {
	at, from := uintptr(unsafe.Pointer(unsafe.StringData(s))), uintptr(unsafe.Pointer(unsafe.StringData(memory)))
	return s != "" && at >= from && at < from+uintptr(len(memory))
}

func TestAnswersAreNewMemory(t *testing.T) {
	s := whole()
	m, _ := dnsread.Read(s)
	if len(texts(m)) < 50 {
		t.Fatal(len(texts(m)))
	}
	for _, one := range texts(m) {
		if within(one, s) {
			t.Errorf("%s is a piece of the message's bytes", show(one))
		}
	}
	for at := begin; at < len(s); at++ {
		if one, _, e := dnsread.Name(s, at); e == api.OK && within(one, s) {
			t.Errorf("the name at %d is a piece of the message's bytes", at)
		}
	}
}

func TestAnswersAreApart(t *testing.T) {
	s := whole()
	m, _ := dnsread.Read(s)
	other, _ := dnsread.Read(s)
	m.Questions[0].Name = "changed"
	for _, list := range [][]api.Record{m.Answers, m.Authority, m.Additional} {
		for i := range list {
			for _, part := range [][]string{list[i].Names, list[i].Texts} {
				for j := range part {
					part[j] = "changed"
				}
				_ = append(part, "changed")
			}
			for j := range list[i].Nums {
				list[i].Nums[j] = 77
			}
			_ = append(list[i].Nums, 77)
			list[i].Name = "changed"
		}
		_ = append(list, api.Record{Name: "changed"})
	}
	_ = append(m.Questions, api.Question{Name: "changed"})
	checkRead(t, s, other, api.OK)
	if slices.Contains(texts(other), "changed") {
		t.Error("two answers share memory")
	}
	n, _ := dnsread.Read(s)
	n.Answers = append(n.Answers, api.Record{Name: "changed"})
	n.Authority = append(n.Authority, api.Record{Name: "changed"})
	if n.Authority[0].Name == "changed" || n.Additional[0].Name == "changed" {
		t.Error("two lists share memory")
	}
}
