package dnswrite_test

import (
	"math/rand"
	"slices"
	"testing"

	"nuncio/api"
	"nuncio/dnsread"
	"nuncio/dnswrite"
	"nuncio/name"
	"nuncio/rdata"
)

// P7.3; and P7.2 held against a model of it.

// mark is a rest of a name, and where it was written.
type mark struct {
	rest  string
	place int
}

// page is what the model writes; a plain one has no pointers.
type page struct {
	s     string
	marks []mark
	plain bool
}

// known is the place of a rest of these labels, if a pointer may lead to it.
func (p *page) known(labels []string) (int, bool) {
	rest, _ := name.Make(labels...)
	i := slices.IndexFunc(p.marks, func(m mark) bool { return m.rest == rest })
	if p.plain || i < 0 || p.marks[i].place > 16383 {
		return 0, false
	}
	return p.marks[i].place, true
}

func (p *page) name(n string) {
	labels := name.Labels(n)
	var ahead []mark
	end := root
	for i, l := range labels {
		if place, ok := p.known(labels[i:]); ok {
			end = to(place)
			break
		}
		rest, _ := name.Make(labels[i:]...)
		ahead = append(ahead, mark{rest, len(p.s)})
		p.s += string([]byte{byte(len(l))}) + l
	}
	p.s += end
	p.marks = append(p.marks, ahead...)
}

func (p *page) data(r api.Record) {
	plain := rdata.Plain(r)
	switch r.Type {
	case 2, 5, 12, 6:
		for _, n := range r.Names {
			p.name(n)
			plain = plain[len(n):]
		}
		p.s += plain
	case 15:
		p.s += plain[:2]
		p.name(plain[2:])
	default:
		p.s += plain
	}
}

// model is what Write should write, however long.
func model(m api.Message, plain bool) string {
	p := &page{plain: plain, s: two(int(m.ID)) + two(int(m.Flags)) + two(len(m.Questions)) + two(len(m.Answers)) + two(len(m.Authority)) + two(len(m.Additional))}
	for _, q := range m.Questions {
		p.name(q.Name)
		p.s += two(int(q.Type)) + two(int(q.Class))
	}
	for _, list := range [][]api.Record{m.Answers, m.Authority, m.Additional} {
		for _, r := range list {
			p.name(r.Name)
			p.s += two(int(r.Type)) + two(int(r.Class)) + four(r.TTL)
			at := len(p.s)
			p.s += "??"
			p.data(r)
			p.s = p.s[:at] + two(len(p.s)-at-2) + p.s[at+2:]
		}
	}
	return p.s
}

// agree fails if Write doesn't write what the model does, or what it writes isn't read as it was; it answers the error.
func agree(t *testing.T, m api.Message) api.Errno {
	t.Helper()
	want, plain := model(m, false), model(m, true)
	if len(want) > 65535 {
		long(t, m)
		return api.ErrLong
	}
	written(t, m, want)
	if len(want) > len(plain) {
		t.Errorf("%s: %d bytes, without pointers %d", tell(m), len(want), len(plain))
	}
	if n, e := dnsread.Read(plain); len(plain) <= 65535 && (e != api.OK || !alike(n, m)) {
		t.Errorf("%s without pointers is read as %s, %d", tell(m), tell(n), e)
	}
	return api.OK
}

// maker makes messages.
type maker struct{ *rand.Rand }

func (m *maker) any(texts ...string) string { return texts[m.Intn(len(texts))] }

// name is one of few labels, so that many end alike.
func (m *maker) name() string {
	n := root
	for range m.Intn(5) {
		l := m.any("\x01a", "\x01a", "\x01A", "\x01b", "\x02bc", "\x03www", "\x02ex", "\x04\x02ex\x00", label(1+m.Intn(63)))
		if len(l)+len(n) <= 255 {
			n = l + n
		}
	}
	return n
}

// names are so many.
func (m *maker) names(n int) []string {
	var all []string
	for range n {
		all = append(all, m.name())
	}
	return all
}

// record is one that is right, with at most so many bytes of texts.
func (m *maker) record(most int) api.Record {
	kinds := append([]uint16{1, 2, 5, 6, 12, 15, 16, 28, 33, 2, 5, 6, 12, 15}, others()[m.Intn(len(others()))])
	r := api.Record{Name: m.name(), Type: kinds[m.Intn(len(kinds))], Class: uint16(m.Intn(65536)), TTL: uint32(m.Intn(1 << 31))}
	names, nums, _ := rdata.Shape(r.Type)
	r.Names = m.names(names)
	for range nums {
		n := m.Uint32()
		if r.Type != api.TypeSOA {
			n %= 65536
		}
		r.Nums = append(r.Nums, n)
	}
	switch r.Type {
	case api.TypeA:
		r.Texts = []string{"abcd"}
	case api.TypeAAAA:
		r.Texts = []string{joined("\xc0\x0c\x01a", 4)}
	case api.TypeTXT:
		for range 1 + m.Intn(3) {
			r.Texts = append(r.Texts, zs(m.Intn(256)))
		}
	case 2, 5, 6, 12, 15, 33:
	case api.TypeOPT:
		r.TTL = m.Uint32()
		r.Texts = []string{m.any("", ex, zs(m.Intn(20)))}
	default:
		r.Texts = []string{m.any("", ex, www, zs(m.Intn(most+1)))}
	}
	return r
}

// message is one.
func (m *maker) message(most int) api.Message {
	one := api.Message{ID: uint16(m.Intn(65536)), Flags: uint16(m.Intn(65536))}
	for range m.Intn(4) {
		one.Questions = append(one.Questions, api.Question{Name: m.name(), Type: uint16(m.Intn(65536)), Class: uint16(m.Intn(65536))})
	}
	for _, list := range []*[]api.Record{&one.Answers, &one.Authority, &one.Additional} {
		for range m.Intn(5) {
			*list = append(*list, m.record(most))
		}
	}
	return one
}

func TestMessagesOfManyKinds(t *testing.T) {
	m := &maker{rand.New(rand.NewSource(7))}
	for range 20000 {
		agree(t, m.message(40))
		if t.Failed() {
			return
		}
	}
}

func TestMessagesAboutTheLastPlaceThatAPointerTells(t *testing.T) {
	m := &maker{rand.New(rand.NewSource(77))}
	for range 1000 {
		one := m.message(40)
		// So that some names stand ahead of it, some behind it, and some on both sides.
		at := m.Intn(len(one.Answers) + 1)
		size := 16384 - begin - m.Intn(300)
		one.Answers = slices.Insert(one.Answers, at, filler(size))
		agree(t, one)
		if t.Failed() {
			return
		}
	}
}

func TestMessagesAboutTheGreatestLength(t *testing.T) {
	m := &maker{rand.New(rand.NewSource(777))}
	seen := map[api.Errno]int{}
	for range 2000 {
		one := m.message(40)
		rest := 65535 - len(model(one, m.Intn(2) == 0)) - bare + m.Intn(5) - 2
		one.Additional = append(one.Additional, filler(bare+rest))
		seen[agree(t, one)]++
		if t.Failed() {
			return
		}
	}
	if seen[api.OK] < 200 || seen[api.ErrLong] < 200 {
		t.Error(seen)
	}
}

func TestAllPairsOfShortNames(t *testing.T) {
	names := []string{root}
	for _, first := range []string{"\x01a", "\x01b", "\x01A", "\x02\x01a", "\x02a\x00", "\x03\x01a\x00"} {
		for _, n := range names[:min(len(names), 43)] {
			names = append(names, first+n)
		}
	}
	for i, n := range names {
		for _, o := range names {
			m := message(naming(o, api.TypeMX, n), naming(n, api.TypeSOA, o, n))
			m.Questions = questions(n)
			agree(t, m)
		}
		if t.Failed() {
			t.Fatal(i)
		}
	}
}

// again fails if what was read of bytes isn't right, or isn't read again as it was when it is written. It may be too long for that, since what pointers led to may be no name that is known.
func again(t *testing.T, s string) api.Errno {
	t.Helper()
	m, e := dnsread.Read(s)
	if e != api.OK {
		return e
	}
	if e := agree(t, m); e != api.OK {
		return e
	}
	first, _ := dnswrite.Write(m)
	n, _ := dnsread.Read(first)
	if second, e := dnswrite.Write(n); e != api.OK || second != first {
		t.Errorf("%s, and once more %s, %d", show(first), show(second), e)
	}
	return api.OK
}

// pen writes messages with pointers wherever labels stood, in SRV's names, in texts and in numbers too.
type pen struct {
	*maker
	s      string
	places []int
}

func (p *pen) name(pointers bool) {
	for range p.Intn(4) {
		p.places = append(p.places, len(p.s))
		p.s += p.any("\x01a", "\x01A", "\x02bc", "\x03www", label(1+p.Intn(63)))
	}
	if pointers && p.Intn(3) > 0 && len(p.places) > 0 {
		p.s += to(p.places[p.Intn(len(p.places))])
		return
	}
	p.s += root
}

func (p *pen) data(kind uint16) {
	switch kind {
	case 2, 5, 12:
		p.name(true)
	case 6:
		p.name(true)
		p.name(true)
		p.s += four(p.Uint32()) + four(0) + "\x01a\x01b" + four(1<<31) + root + "\x01a\x00"
	case 15:
		p.s += two(p.Intn(65536))
		p.name(true)
	case 33:
		p.s += joined(two(p.Intn(65536)), 3)
		p.name(false)
	case 1:
		p.s += "\x01a\x00\x00"
	case 28:
		p.s += joined("\x01b\x02x", 3) + "\x00\x00\x00\x00"
	case 16:
		p.places = append(p.places, len(p.s), len(p.s)+1)
		p.s += "\x05\x03abc\x00\x00"
	default:
		p.name(false)
	}
}

func (p *pen) message() string {
	counts := []int{p.Intn(3), p.Intn(5), p.Intn(4), p.Intn(4)}
	p.s, p.places = numbers(counts...), []int{4, 6, 8, 10}
	for range counts[0] {
		p.name(true)
		p.s += two(p.Intn(65536)) + two(p.Intn(65536))
	}
	for range counts[1] + counts[2] + counts[3] {
		p.name(true)
		kind := []uint16{1, 2, 5, 6, 12, 15, 16, 28, 33, 41, 99}[p.Intn(11)]
		p.s += two(int(kind)) + two(1) + four(uint32(p.Intn(1<<31)))
		at := len(p.s)
		p.s += "??"
		p.data(kind)
		p.s = p.s[:at] + two(len(p.s)-at-2) + p.s[at+2:]
	}
	return p.s
}

func TestWhatWasReadIsWritten(t *testing.T) {
	p := &pen{maker: &maker{rand.New(rand.NewSource(73))}}
	seen := map[api.Errno]int{}
	for range 20000 {
		seen[again(t, p.message())]++
		if t.Failed() {
			return
		}
	}
	if seen[api.OK] < 8000 {
		t.Error(seen)
	}
}

func TestWhatWasReadOfAnyBytesIsWritten(t *testing.T) {
	r := rand.New(rand.NewSource(733))
	seen := map[api.Errno]int{}
	for range 300000 {
		b := make([]byte, begin+r.Intn(60))
		for i := range b {
			if b[i] = byte(r.Intn(256)); r.Intn(20) > 0 {
				b[i] = "\x00\x00\x00\x00\x00\x00\x01\x02\x05\x0f\x0c\xc0\x10"[r.Intn(13)]
			}
		}
		copy(b[4:], two(r.Intn(3))+two(r.Intn(3))+two(r.Intn(2))+two(r.Intn(2)))
		// Cut off where reading says that something stands behind.
		for end := len(b); end >= begin; end-- {
			if e := again(t, string(b[:end])); e != api.ErrMore {
				seen[e]++
				break
			}
		}
		if t.Failed() {
			return
		}
	}
	if seen[api.OK] < 2000 {
		t.Error(seen)
	}
}

func TestWhatWasReadMayBeTooLong(t *testing.T) {
	// 63 names that stand in a text, and as many records whose names are pointers into it.
	text, records := "", ""
	for i := range 63 {
		n := "\x01" + string([]byte{byte(i)}) + longest()[2:]
		n = n[:2] + label(61) + n[64:]
		records += address(to(begin + bare + len(text)))
		text += n
	}
	s := numbers(0, 1, 0, 63) + record(root, 99, text) + records
	if e := again(t, s); e != api.OK {
		t.Error(e)
	}
	text += zs(65535 - len(s))
	s = numbers(0, 1, 0, 63) + record(root, 99, text) + records
	m, e := dnsread.Read(s)
	if e != api.OK || len(s) != 65535 || len(m.Additional) != 63 || len(m.Additional[62].Name) != 255 {
		t.Fatal(len(s), e, tell(m))
	}
	long(t, m)
}
