package dnswrite_test

import (
	"math"
	"slices"
	"testing"

	"nuncio/api"
	"nuncio/dnswrite"
	"nuncio/rdata"
)

// P7.1: Check; and that Write tells its error.

// laid are messages in which these records stand in each of the three lists alone, ahead of a right one in the next list, and behind right ones in all of them.
func laid(records ...api.Record) []api.Message {
	ok := addresses(ex, www)
	return []api.Message{
		{Answers: records},
		{Authority: records},
		{Additional: records},
		{Answers: records, Authority: ok, Additional: ok},
		{Answers: ok, Authority: records, Additional: ok},
		{Answers: ok, Authority: ok, Additional: records},
		{Questions: questions(ex), Answers: append(slices.Clone(ok), records...), Authority: ok, Additional: ok},
		{Questions: questions(ex), Answers: ok, Authority: append(slices.Clone(ok), records...), Additional: ok},
		{Questions: questions(ex), Answers: ok, Authority: ok, Additional: append(slices.Clone(ok), records...)},
		{Questions: questions(ex), Answers: append(slices.Clone(records), ok...)},
		{Questions: questions(ex), Authority: append(slices.Clone(records), ok...)},
		{Questions: questions(ex), Additional: append(slices.Clone(records), ok...)},
	}
}

// noNames are texts that are none.
func noNames() []string {
	return []string{"", "a", "\x01", "\x01a", "\x01a\x00\x00", "\x00\x00", "\x02a\x00", "\x40" + zs(64) + root, "\xc0\x0c", "\x01a\xc0\x0c", "\xff", "a.", label(63) + label(63) + label(63) + label(62) + root, longest()[:254]}
}

func TestMessagesThatAreRight(t *testing.T) {
	for kind := range 1 << 16 {
		r, _ := right(uint16(kind))
		if e := dnswrite.Check(message(r)); e != api.OK {
			t.Errorf("type %d: %d", kind, e)
		}
	}
	for _, kind := range others() {
		for _, m := range laid(holding(longest(), kind, "")) {
			if e := dnswrite.Check(m); e != api.OK {
				t.Errorf("type %d: %s: %d", kind, tell(m), e)
			}
		}
	}
	if e := dnswrite.Check(api.Message{}); e != api.OK {
		t.Error(e)
	}
	if e := dnswrite.Check(api.Message{ID: 65535, Flags: 65535, Questions: questions(root, longest())}); e != api.OK {
		t.Error(e)
	}
}

func TestNoNameInAQuestion(t *testing.T) {
	for _, n := range noNames() {
		refused(t, api.Message{Questions: questions(n)}, api.ErrName)
		refused(t, api.Message{Questions: questions(n, ex)}, api.ErrName)
		refused(t, api.Message{Questions: questions(ex, www, n)}, api.ErrName)
		refused(t, api.Message{Questions: questions(ex, n, www), Answers: addresses(ex), Authority: addresses(ex), Additional: addresses(ex)}, api.ErrName)
		refused(t, api.Message{Questions: append(questions(ex), api.Question{Name: n, Type: api.TypeOPT, Class: 255})}, api.ErrName)
	}
}

func TestNoNameInARecord(t *testing.T) {
	for _, n := range noNames() {
		wrong := []api.Record{holding(n, api.TypeA, "abcd"), holding(n, api.TypeOPT, ""), holding(n, 99, "z")}
		for _, kind := range []uint16{api.TypeNS, api.TypeCNAME, api.TypePTR, api.TypeMX, api.TypeSRV} {
			wrong = append(wrong, naming(n, kind, ex), naming(ex, kind, n))
		}
		wrong = append(wrong, naming(n, api.TypeSOA, ex, ex), naming(ex, api.TypeSOA, n, ex), naming(ex, api.TypeSOA, ex, n))
		for _, r := range wrong {
			for _, m := range laid(r) {
				refused(t, m, api.ErrName)
			}
		}
	}
}

// wrongData are records that haven't their type's shape, or more plain bytes than may be.
func wrongData() []api.Record {
	five := make([]uint32, 5)
	wrong := []api.Record{
		holding(ex, api.TypeA, "abc"), holding(ex, api.TypeA, "abcde"), holding(ex, api.TypeA, ""), holding(ex, api.TypeA, "abcd", "abcd"), one(ex, api.TypeA),
		holding(ex, api.TypeAAAA, zs(15)), holding(ex, api.TypeAAAA, zs(17)), one(ex, api.TypeAAAA),
		one(ex, api.TypeTXT), holding(ex, api.TypeTXT, zs(256)), holding(ex, api.TypeTXT, slices.Repeat([]string{zs(255)}, 256)...),
		one(ex, api.TypeMX), naming(ex, api.TypeMX), naming(ex, api.TypeMX, ex, ex), {Name: ex, Type: api.TypeMX, Names: []string{ex}}, {Name: ex, Type: api.TypeMX, Names: []string{ex}, Nums: []uint32{65536}}, {Name: ex, Type: api.TypeMX, Names: []string{ex}, Nums: []uint32{1, 2}}, {Name: ex, Type: api.TypeMX, Names: []string{ex}, Nums: []uint32{1}, Texts: []string{""}},
		one(ex, api.TypeSRV), naming(ex, api.TypeSRV), naming(ex, api.TypeSRV, ex, ex), {Name: ex, Type: api.TypeSRV, Names: []string{ex}, Nums: []uint32{1, 2}}, {Name: ex, Type: api.TypeSRV, Names: []string{ex}, Nums: []uint32{1, 2, 65536}},
		one(ex, api.TypeSOA), naming(ex, api.TypeSOA, ex), naming(ex, api.TypeSOA, ex, ex, ex), {Name: ex, Type: api.TypeSOA, Names: []string{ex, ex}, Nums: five[:4]}, {Name: ex, Type: api.TypeSOA, Names: []string{ex, ex}, Nums: make([]uint32, 6)}, {Name: ex, Type: api.TypeSOA, Names: []string{ex, ex}, Nums: five, Texts: []string{"a"}},
	}
	for _, kind := range []uint16{api.TypeNS, api.TypeCNAME, api.TypePTR} {
		wrong = append(wrong, one(ex, kind), naming(ex, kind, ex, ex), holding(ex, kind, "abcd"), api.Record{Name: ex, Type: kind, Names: []string{ex}, Nums: []uint32{1}}, api.Record{Name: ex, Type: kind, Names: []string{ex}, Texts: []string{""}})
	}
	for _, kind := range others() {
		wrong = append(wrong, one(ex, kind), holding(ex, kind, "a", "b"), naming(ex, kind, ex), holding(ex, kind, zs(65536)))
	}
	return wrong
}

func TestDataThatATypeDoesntHave(t *testing.T) {
	for _, r := range wrongData() {
		for _, m := range laid(r) {
			refused(t, m, api.ErrData)
		}
	}
}

func TestTTLsOutOfTheirRange(t *testing.T) {
	for kind := range 1 << 16 {
		r, bytes := right(uint16(kind))
		for _, ttl := range []uint32{0, 1, math.MaxInt32 - 1, math.MaxInt32, 1 << 31, 1<<31 + 1, math.MaxUint32} {
			if kind > 300 && ttl != math.MaxInt32 && ttl != 1<<31 {
				continue
			}
			r.TTL = ttl
			if ttl > math.MaxInt32 && r.Type != api.TypeOPT {
				refused(t, message(r), api.ErrRange)
				continue
			}
			written(t, message(r), numbers(0, 1, 0, 0)+bytes[:len(www)+4]+four(ttl)+bytes[len(www)+8:])
		}
	}
	r := addresses(ex)[0]
	r.TTL = 1 << 31
	for _, m := range laid(r) {
		refused(t, m, api.ErrRange)
	}
}

// split are messages of so many questions and right records, all in one list, or in several.
func split(n int) []api.Message {
	q, r := questions(slices.Repeat([]string{root}, n)...), addresses(slices.Repeat([]string{root}, n)...)
	return []api.Message{
		{Questions: q},
		{Answers: r},
		{Authority: r},
		{Additional: r},
		{Questions: q[1:], Answers: r[:1]},
		{Questions: q[:1], Authority: r[1:]},
		{Questions: q[1:], Additional: r[:1]},
		{Answers: r[:100], Authority: r[100:]},
		{Answers: r[:100], Additional: r[100:]},
		{Authority: r[:100], Additional: r[100:]},
		{Questions: q[:64], Answers: r[64:128], Authority: r[128:192], Additional: r[192:]},
		{Questions: q[3:], Answers: r[:1], Authority: r[:1], Additional: r[:1]},
	}
}

func TestAsManyAsMayBe(t *testing.T) {
	for _, m := range split(256) {
		written(t, m, "\x00\x00\x00\x00"+two(len(m.Questions))+two(len(m.Answers))+two(len(m.Authority))+two(len(m.Additional))+joined(asked(root), len(m.Questions))+joined(address(root), 256-len(m.Questions)))
	}
	for _, n := range []int{257, 258, 512, 65535, 65536, 65792} {
		for _, m := range split(n) {
			refused(t, m, api.ErrFull)
		}
	}
	// Together: in no list alone are there more than may be.
	q, r := questions(slices.Repeat([]string{root}, 256)...), addresses(slices.Repeat([]string{root}, 256)...)
	refused(t, api.Message{Questions: q, Answers: r[:1]}, api.ErrFull)
	refused(t, api.Message{Questions: q[:1], Authority: r}, api.ErrFull)
	refused(t, api.Message{Answers: r, Additional: r}, api.ErrFull)
	refused(t, api.Message{Answers: r, Additional: r[:1]}, api.ErrFull)
	refused(t, api.Message{Questions: q, Answers: r, Authority: r, Additional: r}, api.ErrFull)
}

func TestErrorsInTheirOrder(t *testing.T) {
	far := addresses(ex)[0]
	far.TTL = 1 << 31
	wrong := map[api.Errno]api.Record{api.ErrName: addresses("a")[0], api.ErrData: one(ex, api.TypeA), api.ErrRange: far}
	ok := addresses(root)
	many := slices.Repeat(ok, 256)
	for e, r := range wrong {
		// Too many, whatever else is wrong, and wherever.
		refused(t, api.Message{Answers: append(slices.Clone(many), r)}, api.ErrFull)
		refused(t, api.Message{Answers: append([]api.Record{r}, many...)}, api.ErrFull)
		refused(t, api.Message{Questions: questions("a"), Answers: []api.Record{r}, Additional: many[1:]}, api.ErrFull)
		// A question ahead of all records.
		for _, m := range laid(r) {
			m.Questions = questions(ex, "a")
			refused(t, m, api.ErrName)
		}
		// Of records the first one, whatever is wrong with it.
		for f, next := range wrong {
			if e == f {
				continue
			}
			first, second := []api.Record{r}, []api.Record{next}
			for _, m := range laid(r, next) {
				refused(t, m, e)
			}
			for _, m := range laid(r, ok[0], next) {
				refused(t, m, e)
			}
			refused(t, api.Message{Answers: first, Authority: second}, e)
			refused(t, api.Message{Answers: first, Additional: second}, e)
			refused(t, api.Message{Authority: first, Additional: second}, e)
			refused(t, api.Message{Questions: questions(ex), Answers: append(slices.Clone(ok), r), Authority: second, Additional: second}, e)
		}
	}
	refused(t, api.Message{Questions: append(questions(slices.Repeat([]string{root}, 256)...), api.Question{})}, api.ErrFull)
}

func TestErrorsOfOneRecordInTheirOrder(t *testing.T) {
	refused(t, message(api.Record{TTL: 1 << 31}), api.ErrName)
	refused(t, message(api.Record{Type: api.TypeA, Texts: []string{"abcd"}, TTL: 1 << 31}), api.ErrName)
	refused(t, message(api.Record{}), api.ErrName)
	refused(t, message(api.Record{Name: root, Type: api.TypeMX, Names: []string{ex, "a"}, TTL: 1 << 31}), api.ErrName)
	refused(t, message(api.Record{Name: root, TTL: 1 << 31}), api.ErrData)
	refused(t, message(api.Record{Name: root, Type: api.TypeOPT, TTL: 1 << 31}), api.ErrData)
}

func TestErrorsOfMessagesTooLong(t *testing.T) {
	big := filler(65535)
	far := addresses(ex)[0]
	far.TTL = 1 << 31
	long(t, message(big))
	for e, r := range map[api.Errno]api.Record{api.ErrName: addresses("a")[0], api.ErrData: one(ex, api.TypeA), api.ErrRange: far} {
		refused(t, message(big, r), e)
		refused(t, message(r, big), e)
		refused(t, api.Message{Answers: []api.Record{big}, Authority: []api.Record{big}, Additional: []api.Record{r}}, e)
	}
	refused(t, api.Message{Questions: questions("a"), Answers: []api.Record{big}}, api.ErrName)
	refused(t, api.Message{Answers: slices.Repeat([]api.Record{big}, 257)}, api.ErrFull)
	long(t, api.Message{Answers: slices.Repeat([]api.Record{big}, 256)})
	// More plain bytes than may be are the record's error.
	refused(t, message(holding(root, 99, zs(65536))), api.ErrData)
	long(t, message(holding(root, 99, zs(65535))))
	refused(t, message(holding(root, api.TypeTXT, slices.Repeat([]string{zs(255)}, 256)...)), api.ErrData)
	long(t, message(holding(root, api.TypeTXT, append(slices.Repeat([]string{zs(255)}, 255), zs(254))...)))
}

// spare is a list with room behind it that is filled.
func spare[T any](list []T, fill T) []T {
	return append(slices.Clone(list), fill, fill)[:len(list)]
}

// roomy is a message whose lists, and those of its records, have room that is filled.
func roomy(m api.Message) api.Message {
	lists := func(records []api.Record) []api.Record {
		records = slices.Clone(records)
		for i, r := range records {
			records[i].Names, records[i].Nums, records[i].Texts = spare(r.Names, "room"), spare(r.Nums, 77), spare(r.Texts, "room")
		}
		return spare(records, one("room", 77))
	}
	m.Questions = spare(m.Questions, api.Question{Name: "room"})
	m.Answers, m.Authority, m.Additional = lists(m.Answers), lists(m.Authority), lists(m.Additional)
	return m
}

func TestMessagesStayAsTheyWere(t *testing.T) {
	var all []api.Record
	for _, kind := range append([]uint16{1, 2, 5, 6, 12, 15, 16, 28, 33}, others()...) {
		r, _ := right(kind)
		all = append(all, r)
	}
	for _, m := range append(laid(all...), append(laid(addresses("a")...), append(laid(filler(65535)), split(257)...)...)...) {
		m, kept := roomy(m), roomy(m)
		s, e := dnswrite.Write(m)
		dnswrite.Check(m)
		if again, f := dnswrite.Write(m); again != s || f != e {
			t.Errorf("%s, %d, and once more %s, %d", show(s), e, show(again), f)
		}
		if !alike(m, kept) {
			t.Errorf("%s has become %s", tell(kept), tell(m))
		}
		behind := func(m api.Message) []api.Record {
			var room []api.Record
			for _, list := range [][]api.Record{m.Answers, m.Authority, m.Additional} {
				room = append(room, list[:len(list)+2]...)
				for _, r := range list {
					room = append(room, api.Record{Names: r.Names[:len(r.Names)+2], Nums: r.Nums[:len(r.Nums)+2], Texts: r.Texts[:len(r.Texts)+2]})
				}
			}
			return room
		}
		if q := m.Questions; !slices.EqualFunc(behind(m), behind(kept), rdata.Same) || !slices.Equal(q[:len(q)+2], kept.Questions[:len(q)+2]) {
			t.Errorf("spare room of %s has changed", tell(m))
		}
	}
}
