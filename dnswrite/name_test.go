package dnswrite_test

import (
	"slices"
	"testing"

	"nuncio/api"
)

// P7.2: how names are written.

// asks fails if questions for these names aren't written as these bytes, each with its own.
func asks(t *testing.T, names []string, bytes ...string) {
	t.Helper()
	s := numbers(len(names), 0, 0, 0)
	for _, b := range bytes {
		s += asked(b)
	}
	m := message()
	m.Questions = questions(names...)
	written(t, m, s)
	// The same of records' names, in each list.
	r := addresses(names...)
	s = ""
	for _, b := range bytes {
		s += record(moved(b, r, bytes), api.TypeA, "abcd")
	}
	written(t, api.Message{Answers: r}, joined(root, 6)+two(len(r))+joined(root, 4)+s)
	written(t, api.Message{Authority: r}, joined(root, 8)+two(len(r))+joined(root, 2)+s)
	written(t, api.Message{Additional: r}, joined(root, 10)+two(len(r))+s)
}

// moved is a question's name with its pointer, if it has one, to where that leads when records stand in the questions' stead.
func moved(b string, r []api.Record, bytes []string) string {
	if len(b) < 2 || b[len(b)-2] < 192 {
		return b
	}
	place := int(b[len(b)-2])<<8 + int(b[len(b)-1]) - 49152
	at := begin
	for i, c := range bytes {
		if place < at+len(c) {
			return b[:len(b)-2] + to(place+i*(len("\x00\x00\x00\x00\x00\x00abcd")))
		}
		at += len(c) + 4
	}
	return b
}

func TestTheRootIsAByteAlways(t *testing.T) {
	asks(t, []string{root}, root)
	asks(t, []string{root, root, root}, root, root, root)
	asks(t, []string{a, root, a, root}, a, root, to(12), root)
	asks(t, []string{root, a, root, www, root, www}, root, a, root, www, root, to(29))
}

func TestNamesKnownAsAWhole(t *testing.T) {
	for _, n := range []string{a, ex, www, "\x01a\x01a\x01a\x00", "\x05a\x00\xc0.\\\x00", label(63) + root, longest(), joined("\x01z", 127) + root} {
		asks(t, []string{n, n}, n, to(12))
		asks(t, []string{n, n, n, n}, n, to(12), to(12), to(12))
		asks(t, []string{root, n, root, n, n}, root, n, root, to(17), to(17))
	}
	asks(t, []string{a, ex, a, ex, ex, a}, a, ex, to(12), to(19), to(19), to(12))
}

func TestNamesKnownInTheirLastLabels(t *testing.T) {
	asks(t, []string{www, "\x01b\x02ex\x00"}, www, "\x01b"+to(16))
	asks(t, []string{www, ex}, www, to(16))
	asks(t, []string{ex, www}, ex, "\x03www"+to(12))
	asks(t, []string{www, "\x01b\x03www\x02ex\x00"}, www, "\x01b"+to(12))
	asks(t, []string{"\x01a\x01b\x01c\x00", "\x01b\x01c\x00", "\x01c\x00", "\x01d\x01c\x00", "\x01d\x01b\x01c\x00", "\x01e\x01d\x01a\x01b\x01c\x00"},
		"\x01a\x01b\x01c\x00", to(14), to(16), "\x01d"+to(16), "\x01d"+to(14), "\x01e\x01d"+to(12))
	// The last label alone, of many and of the longest name.
	asks(t, []string{"\x01a\x01b\x01c\x01d\x00", "\x01c\x01b\x01a\x01d\x00"}, "\x01a\x01b\x01c\x01d\x00", "\x01c\x01b\x01a"+to(18))
	n := longest()
	asks(t, []string{n, label(61) + root, label(60) + label(61) + root, n[64:]}, n, to(12+192), label(60)+to(12+192), to(12+64))
	// The same labels, of which the last one is another.
	asks(t, []string{www, "\x03www\x02ey\x00", "\x03www\x02ex\x02ex\x00"}, www, "\x03www\x02ey\x00", "\x03www\x02ex"+to(16))
	// A label that comes twice in one name isn't two rests that are alike.
	asks(t, []string{"\x01a\x01a\x01a\x00", a, "\x01a\x01a\x00", "\x01a\x01a\x01a\x01a\x00"}, "\x01a\x01a\x01a\x00", to(16), to(14), "\x01a"+to(12))
	for cut := range 128 {
		n := joined("\x01z", 127) + root
		if cut == 127 {
			asks(t, []string{n, root}, n, root)
			continue
		}
		asks(t, []string{n, n[2*cut:]}, n, to(12+2*cut))
	}
}

func TestTheLongestRestThatIsKnown(t *testing.T) {
	c, bc, abc := "\x01c\x00", "\x01b\x01c\x00", "\x01a\x01b\x01c\x00"
	asks(t, []string{c, bc, abc}, c, "\x01b"+to(12), "\x01a"+to(19))
	asks(t, []string{c, abc, bc}, c, "\x01a\x01b"+to(12), to(21))
	asks(t, []string{c, bc, abc, abc, bc, c, "\x01z\x01a\x01b\x01c\x00", "\x01z\x01c\x00"}, c, "\x01b"+to(12), "\x01a"+to(19), to(27), to(19), to(12), "\x01z"+to(27), "\x01z"+to(12))
}

func TestPlacesAreThoseWrittenFirst(t *testing.T) {
	// What was a pointer alone isn't pointed to, nor what was written behind the first.
	asks(t, []string{www, www, www}, www, to(12), to(12))
	asks(t, []string{www, "\x01b\x02ex\x00", "\x01c\x02ex\x00", "\x01b\x02ex\x00", "\x01d\x01b\x02ex\x00"}, www, "\x01b"+to(16), "\x01c"+to(16), to(24), "\x01d"+to(24))
}

func TestLettersOfAnotherSize(t *testing.T) {
	big := "\x02EX\x00"
	asks(t, []string{ex, big, ex, big}, ex, big, to(12), to(20))
	asks(t, []string{www, "\x03WWW\x02ex\x00", "\x03www\x02EX\x00", "\x03www\x02eX\x00", "\x03WWW\x02ex\x00"}, www, "\x03WWW"+to(16), "\x03www\x02EX\x00", "\x03www\x02eX\x00", to(24))
}

func TestNamesThatEndAlikeWithinALabel(t *testing.T) {
	asks(t, []string{"\x05zz\x02ex\x00", ex, "\x01b\x02ex\x00"}, "\x05zz\x02ex\x00", ex, "\x01b"+to(23))
	asks(t, []string{ex, "\x05zz\x02ex\x00"}, ex, "\x05zz\x02ex\x00")
	asks(t, []string{"\x03wex\x00", ex, "\x02wx\x00", "\x01x\x00"}, "\x03wex\x00", ex, "\x02wx\x00", "\x01x\x00")
	asks(t, []string{"\x01a\x00", "\x03\x01a\x01\x01a\x00", "\x03a\x01a\x00"}, a, "\x03\x01a\x01"+to(12), "\x03a\x01a\x00")
	// Labels with a byte 0 in them: what stands behind it is no rest.
	asks(t, []string{"\x04a\x00\x01b\x00", "\x01b\x00", "\x01b\x04a\x00\x01b\x00"}, "\x04a\x00\x01b\x00", "\x01b\x00", "\x01b"+to(12))
	// Bytes that are alike, of other labels.
	asks(t, []string{"\x03a\x01b\x00", "\x01a\x01b\x00"}, "\x03a\x01b\x00", "\x01a\x01b\x00")
}

func TestNamesOfQuestionsAndRecordsAndData(t *testing.T) {
	m := message(addresses(www, "\x01b\x02ex\x00")...)
	m.Questions = questions(www)
	m.Authority = []api.Record{naming(ex, api.TypeNS, "\x01b\x02ex\x00")}
	m.Additional = addresses("\x01b\x02ex\x00", root)
	written(t, m, numbers(1, 2, 1, 2)+asked(www)+address(to(12))+address("\x01b"+to(16))+record(to(16), api.TypeNS, to(40))+address(to(40))+address(root))
}

// pointing are the types whose data has names that may be pointers, and how much stands ahead of the first of them.
func pointing() map[uint16]int {
	return map[uint16]int{api.TypeNS: 0, api.TypeCNAME: 0, api.TypePTR: 0, api.TypeMX: 2, api.TypeSOA: 0}
}

// data are records' data of a type whose name was written so (of SOA the first one, the other is the root).
func data(kind uint16, name string) string {
	switch kind {
	case api.TypeMX:
		return two(0) + name
	case api.TypeSOA:
		return name + root + joined(root, 20)
	case api.TypeSRV:
		return joined(two(0), 3) + name
	}
	return name
}

// pointed is a record whose data has that name, and of SOA the root's behind it.
func pointed(name string, kind uint16, n string) api.Record {
	if kind == api.TypeSOA {
		return naming(name, kind, n, root)
	}
	return naming(name, kind, n)
}

func TestNamesInData(t *testing.T) {
	for kind, ahead := range pointing() {
		b := "\x01b\x02ex\x00"
		// Known as a whole, in the last label, by the record's own name; new.
		m := message(pointed(root, kind, www), pointed(root, kind, b), pointed(root, kind, b), pointed(root, kind, root), pointed(root, kind, a))
		m.Questions = questions(www)
		at := begin + len(asked(www)) + len(record(root, kind, data(kind, to(12)))) + bare + ahead
		written(t, m, numbers(1, 5, 0, 0)+asked(www)+record(root, kind, data(kind, to(12)))+record(root, kind, data(kind, "\x01b"+to(16)))+record(root, kind, data(kind, to(at)))+record(root, kind, data(kind, root))+record(root, kind, data(kind, a)))
		written(t, message(pointed(www, kind, www)), numbers(0, 1, 0, 0)+record(www, kind, data(kind, to(12))))
		written(t, message(pointed(www, kind, ex)), numbers(0, 1, 0, 0)+record(www, kind, data(kind, to(16))))
		written(t, message(pointed(ex, kind, www)), numbers(0, 1, 0, 0)+record(ex, kind, data(kind, "\x03www"+to(12))))
		written(t, message(pointed(www, kind, "\x03WWW\x02EX\x00")), numbers(0, 1, 0, 0)+record(www, kind, data(kind, "\x03WWW\x02EX\x00")))
		// Known to later names: of records, and in the data of each type.
		at = begin + bare + ahead
		first := record(root, kind, data(kind, www))
		written(t, message(append([]api.Record{pointed(root, kind, www)}, addresses(www, ex, b)...)...), numbers(0, 4, 0, 0)+first+address(to(at))+address(to(at+4))+address("\x01b"+to(at+4)))
		for other := range pointing() {
			written(t, message(pointed(root, kind, www), pointed(ex, other, b)), numbers(0, 2, 0, 0)+first+record(to(at+4), other, data(other, "\x01b"+to(at+4))))
		}
		for _, list := range []api.Message{{Authority: []api.Record{pointed(root, kind, www)}}, {Additional: []api.Record{pointed(root, kind, www)}}} {
			list.Questions = questions("\x01b\x03www\x02ex\x00")
			written(t, list, joined(root, 4)+two(1)+two(0)+two(len(list.Authority))+two(len(list.Additional))+asked("\x01b\x03www\x02ex\x00")+record(root, kind, data(kind, to(14))))
		}
	}
}

func TestBothNamesOfSOA(t *testing.T) {
	zeros := joined(root, 20)
	soa := func(name, first, second string) api.Record { return naming(name, api.TypeSOA, first, second) }
	bytes := func(name, first, second string) string {
		return record(name, api.TypeSOA, first+second+zeros)
	}
	at := begin + bare
	written(t, message(soa(root, www, www)), numbers(0, 1, 0, 0)+bytes(root, www, to(at)))
	written(t, message(soa(root, www, ex)), numbers(0, 1, 0, 0)+bytes(root, www, to(at+4)))
	written(t, message(soa(root, ex, www)), numbers(0, 1, 0, 0)+bytes(root, ex, "\x03www"+to(at)))
	written(t, message(soa(root, root, www)), numbers(0, 1, 0, 0)+bytes(root, root, www))
	written(t, message(soa(www, ex, www)), numbers(0, 1, 0, 0)+bytes(www, to(16), to(12)))
	written(t, message(soa(ex, a, www)), numbers(0, 1, 0, 0)+bytes(ex, a, "\x03www"+to(12)))
	// The second one is known to later names.
	written(t, message(append(addresses(root), append([]api.Record{soa(root, a, www)}, addresses(www, ex)...)...)...), numbers(0, 4, 0, 0)+address(root)+bytes(root, a, www)+address(to(begin+15+bare+3))+address(to(begin+15+bare+7)))
	// Numbers aren't known as names, nor do they end any.
	r := soa(a, a, a)
	r.Nums = []uint32{0x01610001, 0x61000161, 0, 0x01620000, 0}
	written(t, message(append([]api.Record{r}, addresses("\x01b\x00", "\x01b\x01a\x00")...)...), numbers(0, 3, 0, 0)+record(a, api.TypeSOA, to(12)+to(12)+four(0x01610001)+four(0x61000161)+four(0)+four(0x01620000)+four(0))+address("\x01b\x00")+address("\x01b"+to(12)))
}

func TestSRVsNameStandsAsItIs(t *testing.T) {
	srv := func(name, n string) api.Record { return naming(name, api.TypeSRV, n) }
	bytes := func(name, n string) string { return record(name, api.TypeSRV, data(api.TypeSRV, n)) }
	// Known names aren't pointed to by it.
	m := message(srv(www, www), srv(www, ex), srv(ex, "\x01b\x02ex\x00"))
	m.Questions = questions(www)
	written(t, m, numbers(1, 3, 0, 0)+asked(www)+bytes(to(12), www)+bytes(to(12), ex)+bytes(to(16), "\x01b\x02ex\x00"))
	// By it none is known, neither as a whole nor in its last labels.
	written(t, message(srv(root, www), srv(root, www)), numbers(0, 2, 0, 0)+bytes(root, www)+bytes(root, www))
	written(t, message(append([]api.Record{srv(root, www)}, addresses(www, ex, www)...)...), numbers(0, 4, 0, 0)+bytes(root, www)+address(www)+address(to(begin+bare+6+len(www)+4))+address(to(begin+bare+6+len(www))))
	for kind := range pointing() {
		written(t, message(srv(root, www), pointed(root, kind, www)), numbers(0, 2, 0, 0)+bytes(root, www)+record(root, kind, data(kind, www)))
		written(t, message(srv(root, ex), pointed(root, kind, www)), numbers(0, 2, 0, 0)+bytes(root, ex)+record(root, kind, data(kind, www)))
	}
}

func TestTextsThatLookLikeNames(t *testing.T) {
	for _, kind := range append([]uint16{api.TypeTXT}, others()...) {
		text, plain := www, www
		if kind == api.TypeTXT {
			text, plain = "www\x02ex", label(6)[:1]+"www\x02ex"
		}
		m := message(append([]api.Record{holding(www, kind, text), holding(root, kind, text)}, addresses(www, ex)...)...)
		written(t, m, numbers(0, 4, 0, 0)+record(www, kind, plain)+record(root, kind, plain)+address(to(12))+address(to(16)))
		m = message(append([]api.Record{holding(root, kind, text)}, addresses(www, ex)...)...)
		at := begin + bare + len(plain)
		written(t, m, numbers(0, 3, 0, 0)+record(root, kind, plain)+address(www)+address(to(at+4)))
	}
	written(t, message(append([]api.Record{holding(root, api.TypeA, "\x02ex\x00")}, addresses(ex)...)...), numbers(0, 2, 0, 0)+record(root, api.TypeA, ex)+address(ex))
	written(t, message(append([]api.Record{holding(root, api.TypeTXT, "ex", "")}, addresses(ex)...)...), numbers(0, 2, 0, 0)+record(root, api.TypeTXT, "\x02ex\x00")+address(ex))
}

func TestEveryPlaceBelowTheFirstThatNoPointerTells(t *testing.T) {
	for size := bare; begin+size < 16384+300; size++ {
		if size > 600 && size < 16384-100 && size%97 != 0 {
			continue
		}
		at := begin + size
		last := to(at)
		if at >= 16384 {
			last = ex
		}
		written(t, message(append([]api.Record{filler(size)}, addresses(ex, ex)...)...), numbers(0, 3, 0, 0)+filled(size)+address(ex)+address(last))
	}
}

// behind is a message of these records, behind one so long that they begin at that place; and its bytes up to there.
func behind(place int, records ...api.Record) (api.Message, string) {
	return message(append([]api.Record{filler(place - begin)}, records...)...), numbers(0, 1+len(records), 0, 0) + filled(place-begin)
}

func TestRestsAtTheLastPlaceThatAPointerTells(t *testing.T) {
	m, s := behind(16383, addresses(ex, ex, "\x01b\x02ex\x00")...)
	written(t, m, s+address(ex)+address(to(16383))+address("\x01b"+to(16383)))
	m, s = behind(16384, addresses(ex, ex, "\x01b\x02ex\x00", ex)...)
	written(t, m, s+address(ex)+address(ex)+address("\x01b\x02ex\x00")+address(ex))
	// The name begins ahead of the last place, its last label at it.
	m, s = behind(16379, addresses(www, ex, www)...)
	written(t, m, s+address(www)+address(to(16383))+address(to(16379)))
	// Its last label stands too far: it isn't known, but the whole is.
	for place := 16380; place < 16384; place++ {
		m, s = behind(place, addresses(www, ex, ex, www, "\x01b\x03www\x02ex\x00", "\x01b\x02ex\x00")...)
		written(t, m, s+address(www)+address(ex)+address(ex)+address(to(place))+address("\x01b"+to(place))+address("\x01b\x02ex\x00"))
	}
	m, s = behind(16384, addresses(www, www)...)
	written(t, m, s+address(www)+address(www))
	// The labels ahead of a known rest are known in their turn, as long as they stand near enough.
	m, s = behind(16382, addresses("\x01a\x01b\x02ex\x00", "\x01a\x01b\x02ex\x00", "\x01b\x02ex\x00")...)
	m.Questions = questions(ex)
	m.Answers[0] = filler(16382 - begin - len(asked(ex)))
	s = numbers(1, 4, 0, 0) + asked(ex) + filled(16382-begin-len(asked(ex)))
	written(t, m, s+address("\x01a\x01b"+to(12))+address(to(16382))+address("\x01b"+to(12)))
	// What is known stays known behind these places.
	m.Answers[0] = filler(30000 - begin - len(asked(ex)))
	written(t, m, numbers(1, 4, 0, 0)+asked(ex)+filled(30000-begin-len(asked(ex)))+address("\x01a\x01b"+to(12))+address("\x01a\x01b"+to(12))+address("\x01b"+to(12)))
}

func TestDataAtTheLastPlaceThatAPointerTells(t *testing.T) {
	for kind, ahead := range pointing() {
		for _, place := range []int{16382, 16383, 16384, 16385} {
			last := to(place)
			if place > 16383 {
				last = ex
			}
			m, s := behind(place-bare-ahead, pointed(root, kind, ex), pointed(root, kind, ex))
			written(t, m, s+record(root, kind, data(kind, ex))+record(root, kind, data(kind, last)))
			m, s = behind(place-bare-ahead, append([]api.Record{pointed(root, kind, ex)}, addresses(ex)...)...)
			written(t, m, s+record(root, kind, data(kind, ex))+address(last))
		}
	}
	// SOA's second name, the first one standing near enough still.
	zeros := joined(root, 20)
	m, s := behind(16384-bare-3, naming(root, api.TypeSOA, a, ex), naming(root, api.TypeSOA, a, ex))
	written(t, m, s+record(root, api.TypeSOA, a+ex+zeros)+record(root, api.TypeSOA, to(16381)+ex+zeros))
	m, s = behind(16383-bare-3, naming(root, api.TypeSOA, a, ex), naming(root, api.TypeSOA, a, ex))
	written(t, m, s+record(root, api.TypeSOA, a+ex+zeros)+record(root, api.TypeSOA, to(16380)+to(16383)+zeros))
}

func TestOneCallKnowsNothingOfAnother(t *testing.T) {
	for range 3 {
		m := message(addresses(www)...)
		written(t, m, numbers(0, 1, 0, 0)+address(www))
		written(t, message(slices.Concat(addresses(a), m.Answers)...), numbers(0, 2, 0, 0)+address(a)+address(www))
	}
}
