package query_test

import (
	"fmt"
	"math"
	"math/rand"
	"slices"
	"strings"
	"testing"

	"nuncio/api"
	"nuncio/name"
	"nuncio/num"
	"nuncio/query"
)

// P8.1 to P8.5 held against a model of them.

// digits are a message's flags, QR first.
func digits(m api.Message) string { return fmt.Sprintf("%016b", m.Flags) }

// every are a message's records of these types, or of all but these.
func every(records []api.Record, not bool, kinds ...uint16) []api.Record {
	var all []api.Record
	for _, r := range records {
		if slices.Contains(kinds, r.Type) != not {
			all = append(all, r)
		}
	}
	return all
}

func modelAsk(m api.Message) (api.Key, api.Errno) {
	counts := fmt.Sprint(digits(m)[:5], len(m.Questions), len(m.Answers), len(m.Authority))
	if counts != "00000 1 0 0" && counts != "000001 0 0" {
		return api.Key{}, api.ErrDNS
	}
	q := m.Questions[0]
	n, e := name.Make(name.Labels(lower(q.Name))...)
	if e != api.OK || len(n) != len(q.Name) || q.Name[len(q.Name)-1] != 0 || q.Type == 41 {
		return api.Key{}, api.ErrDNS
	}
	opts := every(m.Additional, false, 41)
	return api.Key{Name: n, Type: q.Type, Class: q.Class, DO: len(opts) > 0 && fmt.Sprintf("%032b", opts[0].TTL)[16] == '1'}, api.OK
}

// lower is a text with small letters for great ones.
func lower(s string) string {
	for c := 'A'; c <= 'Z'; c++ {
		s = strings.ReplaceAll(s, string(c), string(c+32))
	}
	return s
}

func modelFits(k api.Key, id uint16, m api.Message) bool {
	b := digits(m)
	right := b[0] == '1' && b[6] == '0' && b[1:5] == "0000" && int(m.ID)-int(id) == 0
	for i, q := range m.Questions {
		right = right && i == 0 && q.Type == k.Type && q.Class == k.Class && name.Fold(q.Name) == k.Name
	}
	return right && len(m.Questions) > 0
}

func modelNegative(m api.Message) bool {
	for _, q := range m.Questions {
		switch digits(m)[12:] {
		case "0011":
			return true
		case "0000":
			return len(every(m.Answers, false, q.Type, 5)) == 0
		}
		return false
	}
	return false
}

func modelLeast(m api.Message) uint32 {
	var seconds []uint32
	if modelNegative(m) {
		for _, r := range every(m.Authority, false, 6) {
			if len(r.Nums) == 5 {
				seconds = []uint32{r.TTL, r.Nums[4]}
			}
			break
		}
	} else {
		for _, r := range every(slices.Concat(m.Additional, m.Authority, m.Answers), true, 41) {
			seconds = append(seconds, r.TTL)
		}
	}
	slices.Sort(seconds)
	return append(seconds, 0)[0]
}

func modelAge(m api.Message, seconds uint64) api.Message {
	m = cloned(m)
	for i, r := range m.Answers {
		m.Answers[i] = modelAged(r, seconds)
	}
	for i, r := range m.Authority {
		m.Authority[i] = modelAged(r, seconds)
	}
	for i, r := range m.Additional {
		m.Additional[i] = modelAged(r, seconds)
	}
	return m
}

func modelAged(r api.Record, seconds uint64) api.Record {
	for range 64 {
		if r.Type == 41 {
			return r
		}
		step := min(seconds, 1<<31)
		r.TTL, seconds = uint32(max(int64(r.TTL)-int64(step), 0)), seconds-step
	}
	return r
}

// maker makes messages.
type maker struct{ *rand.Rand }

// one is any of these.
func one[E any](m *maker, of ...E) E { return of[m.Intn(len(of))] }

func (m *maker) name() string {
	if m.Intn(9) == 0 {
		return one(m, noNames()...)
	}
	return one(m, root, ex, ex, big, big, "\x02ex\x00", "\x02\xc9[\x00", longest(), strings.ToUpper(ex))
}

func (m *maker) kind() uint16 {
	return one[uint16](m, 1, 1, 28, 5, 6, 41, 0, 40, 42, 255, 65535)
}

// number is small, or one about the greatest ones.
func (m *maker) number() uint32 {
	return one(m, uint32(m.Intn(4)), 60+uint32(m.Intn(4)), 300, 1<<15, 1<<15|1, math.MaxInt32, 1<<31, math.MaxUint32, m.Uint32())
}

func (m *maker) seconds() uint64 {
	return one(m, uint64(m.number()), uint64(m.number()), uint64(m.number())+1, 1<<32+uint64(m.number()), math.MaxUint64-uint64(m.number()), m.Uint64())
}

func (m *maker) records(most int) []api.Record {
	var all []api.Record
	for range m.Intn(most + 1) {
		r := api.Record{Name: m.name(), Type: m.kind(), Class: uint16(m.Intn(3)), TTL: m.number()}
		n := 0
		if r.Type == api.TypeSOA {
			n = one(m, 5, 5, 5, 5, 4, 6, 0)
			r.Names = []string{m.name(), m.name()}
		}
		for range n {
			r.Nums = append(r.Nums, m.number())
		}
		for range m.Intn(2) {
			r.Texts = append(r.Texts, "ab"+m.name())
		}
		all = append(all, r)
	}
	return all
}

func (m *maker) message() api.Message {
	x := api.Message{ID: uint16(m.Intn(2)), Flags: one[uint16](m, 0, 0x0100, 0x8180, 0x8180, 0x8183, 3, 0x8182, uint16(m.Intn(65536)))}
	if m.Intn(4) == 0 {
		x.Flags ^= 1 << m.Intn(16)
	}
	for range one(m, 0, 1, 1, 1, 1, 1, 1, 2, 3) {
		x.Questions = append(x.Questions, api.Question{Name: m.name(), Type: m.kind(), Class: uint16(m.Intn(2))})
	}
	most := m.Intn(5)
	x.Answers, x.Authority, x.Additional = m.records(most), m.records(most), m.records(4)
	if m.Intn(3) > 0 {
		x.Answers = nil
	}
	return x
}

// key is that of a message's question, mostly, or a like one.
func (m *maker) key(x api.Message) api.Key {
	k := api.Key{Name: ex, Type: m.kind(), Class: uint16(m.Intn(2)), DO: m.Intn(2) == 0}
	if len(x.Questions) > 0 {
		k.Name, k.Type, k.Class = name.Fold(x.Questions[0].Name), x.Questions[0].Type, x.Questions[0].Class
	}
	switch m.Intn(12) {
	case 0:
		k.Name = m.name()
	case 1:
		k.Type = m.kind()
	case 2:
		k.Class ^= 1
	}
	return k
}

func TestMessagesOfManyKinds(t *testing.T) {
	m := &maker{rand.New(rand.NewSource(8))}
	seen := map[string]int{}
	for range 100000 {
		x := m.message()
		k, e := query.Ask(x)
		if l, f := modelAsk(x); k != l || e != f {
			t.Errorf("Ask(%s) = %#v, %d, want %#v, %d", tell(x), k, e, l, f)
		}
		l := m.key(x)
		want := modelFits(l, 1, x)
		fits(t, l, 1, x, want)
		negative(t, x, modelNegative(x))
		least(t, x, modelLeast(x))
		seconds := m.seconds()
		same(t, query.Age(x, seconds), modelAge(x, seconds))
		same(t, query.Fail(7, x), api.Message{ID: 7, Flags: 0x8082 + 0x0100*uint16(digits(x)[7]-'0'), Questions: x.Questions})
		seen[fmt.Sprint("ask ", e == api.OK, k.DO)]++
		seen[fmt.Sprint("fits ", want)]++
		seen[fmt.Sprint("negative ", modelNegative(x), modelLeast(x) > 0)]++
		if t.Failed() {
			return
		}
	}
	for _, what := range []string{"ask true false", "ask true true", "fits true", "negative true true", "negative true false", "negative false true", "negative false false"} {
		if seen[what] < 500 {
			t.Errorf("%s: %d times", what, seen[what])
		}
	}
	if t.Failed() {
		t.Error(seen)
	}
}

func TestManyMessagesAsTimeGoesBy(t *testing.T) {
	m := &maker{rand.New(rand.NewSource(88))}
	for range 30000 {
		x := m.message()
		first, second := m.seconds(), m.seconds()
		aged := query.Age(query.Age(x, first), second)
		same(t, aged, query.Age(x, num.Add64(first, second)))
		if a, b, c := query.Least(x), query.Least(query.Age(x, first)), query.Least(aged); a < b || b < c {
			t.Errorf("%s holds for %d, behind %d seconds for %d, behind %d more for %d", tell(x), a, first, b, second, c)
		}
		if k, e := query.Ask(x); e == api.OK {
			asked(t, query.Make(uint16(second), k), k)
		}
		if t.Failed() {
			return
		}
	}
}
