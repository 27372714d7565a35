package query_test

import (
	"fmt"
	"slices"
	"strings"
	"testing"
	"unsafe"

	"nuncio/api"
	"nuncio/query"
	"nuncio/rdata"
)

const (
	root = "\x00"
	ex   = "\x03www\x02ex\x00"
	// big is that name in letters of both sizes.
	big = "\x03wWW\x02Ex\x00"
)

// zs is a text of so many bytes.
func zs(n int) string { return strings.Repeat("z", n) }

// longest is a name of 255 bytes.
func longest() string {
	return "\x3f" + zs(63) + "\x3f" + zs(63) + "\x3f" + zs(63) + "\x3d" + zs(61) + root
}

// noNames are texts that are none.
func noNames() []string {
	return []string{"", "a", "\x01", "\x01a", "ex.", "\x00\x00", "\x02ex\x00\x00", "\x01\x02ex\x00", "\xc0\x0c", "\x40" + zs(64) + root, "\x01a" + longest(), longest()[:254], longest() + root}
}

// asks are questions of that type, one for each name.
func asks(kind uint16, names ...string) []api.Question {
	var all []api.Question
	for _, n := range names {
		all = append(all, api.Question{Name: n, Type: kind, Class: 1})
	}
	return all
}

// of is a record of that type and TTL.
func of(kind uint16, ttl uint32) api.Record {
	return api.Record{Name: ex, Type: kind, Class: 1, TTL: ttl}
}

// ttls are records of type A with these TTLs.
func ttls(all ...uint32) []api.Record {
	var records []api.Record
	for _, ttl := range all {
		records = append(records, of(api.TypeA, ttl))
	}
	return records
}

// soa is one with that TTL and that MINIMUM.
func soa(ttl, minimum uint32) api.Record {
	r := of(api.TypeSOA, ttl)
	r.Names, r.Nums = []string{ex, big}, []uint32{7, 5, 3, 1, minimum}
	return r
}

// opt is one with that TTL.
func opt(ttl uint32) api.Record {
	return api.Record{Name: root, Type: api.TypeOPT, Class: 1232, TTL: ttl, Texts: []string{""}}
}

// list is one of records.
func list(records ...api.Record) []api.Record { return records }

// tell is a message as it is told of.
func tell(m api.Message) string { return fmt.Sprintf("%.600s", fmt.Sprintf("%#v", m)) }

// alike: are two messages?
func alike(m, n api.Message) bool {
	return m.ID == n.ID && m.Flags == n.Flags && slices.Equal(m.Questions, n.Questions) && slices.EqualFunc(m.Answers, n.Answers, rdata.Same) &&
		slices.EqualFunc(m.Authority, n.Authority, rdata.Same) && slices.EqualFunc(m.Additional, n.Additional, rdata.Same)
}

// same fails if a message isn't as it should be.
func same(t *testing.T, got, want api.Message) {
	t.Helper()
	if !alike(got, want) {
		t.Errorf("%s\nwant %s", tell(got), tell(want))
	}
}

// asked fails if that isn't the key of a query.
func asked(t *testing.T, m api.Message, want api.Key) {
	t.Helper()
	if k, e := query.Ask(m); k != want || e != api.OK {
		t.Errorf("Ask(%s) = %#v, %d, want %#v", tell(m), k, e, want)
	}
}

// refused fails if a message has a key.
func refused(t *testing.T, m api.Message) {
	t.Helper()
	if k, e := query.Ask(m); k != (api.Key{}) || e != api.ErrDNS {
		t.Errorf("Ask(%s) = %#v, %d", tell(m), k, e)
	}
}

// fits fails if an answer fits a query, and shouldn't, or the other way round.
func fits(t *testing.T, k api.Key, id uint16, m api.Message, want bool) {
	t.Helper()
	if query.Fits(k, id, m) != want {
		t.Errorf("Fits(%#v, %d, %s) = %v", k, id, tell(m), !want)
	}
}

// negative fails if an answer is, and shouldn't, or the other way round.
func negative(t *testing.T, m api.Message, want bool) {
	t.Helper()
	if query.Negative(m) != want {
		t.Errorf("Negative(%s) = %v", tell(m), !want)
	}
}

// least fails if an answer holds for longer or shorter.
func least(t *testing.T, m api.Message, want uint32) {
	t.Helper()
	if n := query.Least(m); n != want {
		t.Errorf("Least(%s) = %d, want %d", tell(m), n, want)
	}
}

// span is where some memory begins, and where it ends.
type span struct{ begin, end uintptr }

// spanOf is that of a list, its spare room with it.
func spanOf[E any](list []E) span {
	begin := uintptr(unsafe.Pointer(unsafe.SliceData(list)))
	return span{begin, begin + uintptr(cap(list))*unsafe.Sizeof(*new(E))}
}

// spanOfText is that of a text.
func spanOfText(s string) span {
	begin := uintptr(unsafe.Pointer(unsafe.StringData(s)))
	return span{begin, begin + uintptr(len(s))}
}

// listsOf is the memory of a message's lists and of those in its records.
func listsOf(m api.Message) []span {
	all := []span{spanOf(m.Questions), spanOf(m.Answers), spanOf(m.Authority), spanOf(m.Additional)}
	for _, r := range slices.Concat(m.Answers, m.Authority, m.Additional) {
		all = append(all, spanOf(r.Names), spanOf(r.Nums), spanOf(r.Texts))
	}
	return all
}

// textsOf is the memory of a message's texts, but for those of one byte: of these the language keeps one each, for all who have them.
func textsOf(m api.Message) []span {
	var texts []string
	for _, q := range m.Questions {
		texts = append(texts, q.Name)
	}
	for _, r := range slices.Concat(m.Answers, m.Authority, m.Additional) {
		texts = slices.Concat(texts, r.Names, r.Texts, []string{r.Name})
	}
	var all []span
	for _, s := range texts {
		if len(s) > 1 {
			all = append(all, spanOfText(s))
		}
	}
	return all
}

// shared: how many spans have some memory of each other's.
func shared(a, b []span) int {
	n := 0
	for _, x := range a {
		for _, y := range b {
			if max(x.begin, y.begin) < min(x.end, y.end) {
				n++
			}
		}
	}
	return n
}

// apart fails if an answer shares memory with what was handed in, or a list of it with another of its own.
func apart(t *testing.T, in, out api.Message) {
	t.Helper()
	if n := shared(append(listsOf(in), textsOf(in)...), append(listsOf(out), textsOf(out)...)); n > 0 {
		t.Errorf("%d parts of %s share memory with %s", n, tell(out), tell(in))
	}
	lists := listsOf(out)
	for i, one := range lists {
		if n := shared([]span{one}, lists[i+1:]); n > 0 {
			t.Errorf("%d lists of %s share memory with its list %d", n, tell(out), i)
		}
	}
}

// roomy is a list like it with room behind it that is filled.
func roomy[E any](list []E, fill E) []E {
	return append(slices.Clone(list), fill, fill)[:len(list)]
}

// spacious is a message like it, all of whose lists have such room.
func spacious(m api.Message) api.Message {
	records := func(list []api.Record) []api.Record {
		list = roomy(list, of(1, 77))
		for i, r := range list {
			r.Names, r.Nums, r.Texts = roomy(r.Names, "\x04room\x00"), roomy(r.Nums, 88), roomy(r.Texts, "room")
			list[i] = r
		}
		return list
	}
	m.Questions = roomy(m.Questions, api.Question{Name: "\x04ROOM\x00", Type: 99})
	m.Answers, m.Authority, m.Additional = records(m.Answers), records(m.Authority), records(m.Additional)
	return m
}

// stretched is a message with the room behind its lists, and without what stands ahead of that room.
func stretched(m api.Message) api.Message {
	records := func(list []api.Record) []api.Record {
		room := slices.Clone(list[len(list) : len(list)+2])
		for _, r := range list {
			room = append(room, api.Record{Names: r.Names[len(r.Names) : len(r.Names)+2], Nums: r.Nums[len(r.Nums) : len(r.Nums)+2], Texts: r.Texts[len(r.Texts) : len(r.Texts)+2]})
		}
		return room
	}
	n := len(m.Questions)
	return api.Message{Questions: m.Questions[n : n+2], Answers: records(m.Answers), Authority: records(m.Authority), Additional: records(m.Additional)}
}

// rich is a message that has something everywhere, in memory of its own.
func rich() api.Message {
	all := func(ttl uint32) []api.Record {
		a, mx, txt := of(api.TypeA, ttl), of(api.TypeMX, ttl+1), of(api.TypeTXT, ttl+2)
		a.Name, a.Texts = big, []string{"abcd"}
		mx.Names, mx.Nums = []string{big}, []uint32{10}
		txt.Texts = []string{"ab", "", zs(255)}
		o := opt(ttl)
		o.Texts[0] = "option"
		return []api.Record{a, mx, txt, o, soa(ttl+3, 9)}
	}
	m := api.Message{ID: 0x1234, Flags: 0x8583, Questions: asks(api.TypeMX, big, ex, longest()), Answers: all(10), Authority: all(100), Additional: all(1000)}
	return cloned(m)
}

// cloned is a message like it in memory of its own, its texts too. Not by package rdata.
func cloned(m api.Message) api.Message {
	text := func(s string) string { return string([]byte(s)) }
	texts := func(list []string) []string {
		var all []string
		for _, s := range list {
			all = append(all, text(s))
		}
		return all
	}
	records := func(list []api.Record) []api.Record {
		var all []api.Record
		for _, r := range list {
			r.Name, r.Names, r.Nums, r.Texts = text(r.Name), texts(r.Names), append([]uint32(nil), r.Nums...), texts(r.Texts)
			all = append(all, r)
		}
		return all
	}
	questions := m.Questions
	m.Questions = nil
	for _, q := range questions {
		q.Name = text(q.Name)
		m.Questions = append(m.Questions, q)
	}
	m.Answers, m.Authority, m.Additional = records(m.Answers), records(m.Authority), records(m.Additional)
	return m
}
