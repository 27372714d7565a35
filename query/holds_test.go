package query_test

import (
	"math"
	"slices"
	"testing"

	"nuncio/api"
)

// P8.3: Negative, Least.

func TestNegativeOfAnyFlags(t *testing.T) {
	for flags := range 1 << 16 {
		m := api.Message{Flags: uint16(flags), Questions: asks(1, ex)}
		code := flags % 16
		negative(t, m, code == 0 || code == 3)
		m.Answers = ttls(60)
		negative(t, m, code == 3)
		m.Answers = list(of(5, 60))
		negative(t, m, code == 3)
		m.Questions = nil
		negative(t, m, false)
	}
}

func TestNegativeByTheTypesOfAnswers(t *testing.T) {
	for kind := range 1 << 16 {
		m := api.Message{Questions: asks(1, ex), Answers: list(of(uint16(kind), 60))}
		negative(t, m, kind != 1 && kind != 5)
		m.Questions = asks(uint16(kind), ex)
		negative(t, m, false)
		m.Answers = list(of(5, 60))
		negative(t, m, false)
		m.Answers = ttls(60)
		negative(t, m, kind != 1)
		m.Answers = nil
		negative(t, m, true)
	}
}

func TestNegativeByAnyOfTheAnswers(t *testing.T) {
	others := list(of(28, 1), of(41, 1), of(2, 1), of(6, 1))
	negative(t, api.Message{Questions: asks(1, ex), Answers: others}, true)
	for _, kind := range []uint16{1, 5} {
		for i := range len(others) + 1 {
			m := api.Message{Questions: asks(1, ex), Answers: slices.Insert(slices.Clone(others), i, of(kind, 1))}
			negative(t, m, false)
			// Whatever its name, its class and its data.
			m.Answers[i] = api.Record{Name: "x", Type: kind, Class: 9}
			negative(t, m, false)
			// In another list than Answers it is no answer.
			negative(t, api.Message{Questions: asks(1, ex), Answers: others, Authority: m.Answers}, true)
			negative(t, api.Message{Questions: asks(1, ex), Answers: others, Additional: m.Answers}, true)
		}
	}
	negative(t, api.Message{Questions: asks(41, ex), Answers: list(opt(0))}, false)
	negative(t, api.Message{Questions: asks(255, ex), Answers: ttls(60)}, true)
}

func TestNegativeByTheFirstQuestion(t *testing.T) {
	one, two := asks(1, ex), asks(28, ex)
	m := api.Message{Questions: append(slices.Clone(one), two...), Answers: list(of(28, 60))}
	negative(t, m, true)
	m.Questions = append(slices.Clone(two), one...)
	negative(t, m, false)
	m.Questions = append(slices.Clone(two), two...)
	negative(t, m, false)
	m.Flags = api.CodeNXDomain
	negative(t, m, true)
	// Its name may be none.
	negative(t, api.Message{Questions: asks(1, "x")}, true)
	negative(t, api.Message{Questions: asks(1, "x"), Answers: ttls(1)}, false)
}

func TestNegativeWithoutAQuestion(t *testing.T) {
	for code := range uint16(16) {
		negative(t, api.Message{Flags: code}, false)
		negative(t, api.Message{Flags: code, Questions: []api.Question{}, Answers: list(of(28, 1)), Authority: list(soa(900, 300))}, false)
	}
}

func TestTheExamples(t *testing.T) {
	least(t, api.Message{Flags: 0x8180, Questions: asks(1, ex), Answers: list(of(5, 60), of(1, 300))}, 60)
	least(t, api.Message{Flags: 0x8183, Questions: asks(1, ex), Authority: list(soa(900, 300))}, 300)
}

// negatives are messages that are negative, of NXDOMAIN and of NODATA, with that authority, and with answers and additional records that hold for a shorter time or for a longer one.
func negatives(authority ...api.Record) []api.Message {
	var all []api.Message
	for _, ttl := range []uint32{0, 1, math.MaxUint32} {
		other := list(of(28, ttl), soa(ttl, ttl), opt(ttl))
		all = append(all,
			api.Message{Flags: 3, Questions: asks(1, ex), Authority: authority},
			api.Message{Questions: asks(1, ex), Authority: authority},
			api.Message{Flags: 0x8183, Questions: asks(1, ex), Answers: ttls(ttl), Authority: authority, Additional: other},
			api.Message{Flags: 0x8180, Questions: asks(1, ex), Answers: other, Authority: authority, Additional: append(ttls(ttl), other...)},
		)
	}
	return all
}

func TestLeastOfASOA(t *testing.T) {
	for _, ttl := range []uint32{0, 1, 60, 299, 300, 301, 1<<31 - 1, 1 << 31, math.MaxUint32} {
		for _, minimum := range []uint32{0, 1, 60, 299, 300, 301, 1<<31 - 1, 1 << 31, math.MaxUint32} {
			want := min(ttl, minimum)
			for _, authority := range [][]api.Record{
				{soa(ttl, minimum)},
				{of(2, 1), soa(ttl, minimum)},
				{of(1, 0), opt(0), soa(ttl, minimum), of(46, 0)},
				{soa(ttl, minimum), soa(0, 0)},
				{soa(ttl, minimum), soa(math.MaxUint32, math.MaxUint32)},
				{of(2, math.MaxUint32), soa(ttl, minimum), of(2, 5), soa(7, 7)},
			} {
				for _, m := range negatives(authority...) {
					negative(t, m, true)
					least(t, m, want)
				}
			}
		}
	}
}

func TestLeastOfNoSOA(t *testing.T) {
	for _, authority := range [][]api.Record{nil, {}, {of(2, 60)}, {of(1, 60), opt(60), of(5, 60), of(7, 60)}, {{Type: 5, TTL: 60, Nums: []uint32{1, 2, 3, 4, 5}}}} {
		for _, m := range negatives(authority...) {
			negative(t, m, true)
			least(t, m, 0)
		}
	}
}

func TestLeastOfASOAInAnotherList(t *testing.T) {
	for _, code := range []uint16{0, 3} {
		least(t, api.Message{Flags: code, Questions: asks(1, ex), Answers: list(soa(900, 300))}, 0)
		least(t, api.Message{Flags: code, Questions: asks(1, ex), Additional: list(soa(900, 300))}, 0)
		least(t, api.Message{Flags: code, Questions: asks(1, ex), Answers: list(soa(9, 9)), Authority: list(soa(900, 300)), Additional: list(soa(8, 8))}, 300)
	}
}

func TestLeastOfASOAThatHasntFiveNumbers(t *testing.T) {
	for n := range 12 {
		r := soa(900, 300)
		r.Nums = slices.Repeat([]uint32{300}, n)
		want := uint32(0)
		if n == 5 {
			want = 300
		}
		for _, m := range negatives(r) {
			least(t, m, want)
		}
		// The first one counts, also if the next is right.
		for _, m := range negatives(of(2, 1), r, soa(800, 200)) {
			least(t, m, want)
		}
		// Of an answer that isn't negative its TTL counts, whatever its numbers.
		least(t, api.Message{Questions: asks(1, ex), Answers: ttls(1000), Authority: list(r)}, 900)
		least(t, api.Message{Authority: list(r)}, 900)
	}
	// The last number, whatever the others are; names don't count.
	for i := range 5 {
		r := soa(900, 300)
		r.Names = nil
		r.Nums[i] = 1
		want := uint32(300)
		if i == 4 {
			want = 1
		}
		least(t, api.Message{Flags: 3, Questions: asks(1, ex), Authority: list(r)}, want)
	}
}

// laid are messages that aren't negative, with these records in their lists, in each one, and parted between them. (There is no question, or a code that is neither 0 nor 3, or there is an answer that holds for the longest time.)
func laid(records ...api.Record) []api.Message {
	var all []api.Message
	for i := range len(records) + 1 {
		a, b := slices.Clone(records[:i]), slices.Clone(records[i:])
		all = append(all,
			api.Message{Answers: a, Authority: b},
			api.Message{Answers: b, Additional: a},
			api.Message{Authority: a, Additional: b},
			api.Message{Flags: 3, Authority: b, Additional: a},
			api.Message{Flags: 2, Questions: asks(1, ex), Answers: a, Authority: b},
			api.Message{Flags: 0x8185, Questions: asks(1, ex), Answers: b, Additional: a},
			api.Message{Flags: 0x8180, Questions: asks(1, ex), Answers: append(a, of(1, math.MaxUint32)), Authority: b},
			api.Message{Flags: 0x8180, Questions: asks(1, ex), Answers: append(ttls(math.MaxUint32), b...), Additional: a},
			api.Message{Flags: 0x8180, Questions: asks(1, ex), Answers: list(of(5, math.MaxUint32)), Authority: b, Additional: a},
		)
	}
	return all
}

func TestLeastOfAllRecords(t *testing.T) {
	for _, x := range []struct {
		records []api.Record
		want    uint32
	}{
		{ttls(60), 60},
		{ttls(0), 0},
		{ttls(math.MaxUint32), math.MaxUint32},
		{ttls(60, 300, 61), 60},
		{ttls(300, 60, 61), 60},
		{ttls(300, 61, 60), 60},
		{ttls(60, 60, 60), 60},
		{ttls(5, 0, 7), 0},
		{ttls(1<<31, 1<<31-1, math.MaxUint32), 1<<31 - 1},
		{ttls(math.MaxUint32, 1<<31), 1 << 31},
		{ttls(1<<16+1, 1<<8+2), 1<<8 + 2},
		{list(of(1, 60), opt(1), opt(0)), 60},
		{list(opt(0), of(28, 60), opt(0), of(2, 59)), 59},
		{list(of(28, 7), of(2, 6), of(6, 5), of(65535, 4), of(0, 3)), 3},
		{list(of(42, 3), of(40, 4), opt(2)), 3},
		{list(soa(900, 300)), 900},
		{list(soa(900, 300), of(1, 800)), 800},
	} {
		for _, m := range laid(x.records...) {
			negative(t, m, false)
			least(t, m, x.want)
		}
	}
}

func TestLeastOfEachType(t *testing.T) {
	for kind := range 1 << 16 {
		want := uint32(7)
		if kind == 41 {
			want = 9
		}
		r := list(of(uint16(kind), 7), of(1, 9))
		least(t, api.Message{Answers: r}, want)
		least(t, api.Message{Authority: r}, want)
		least(t, api.Message{Additional: r}, want)
	}
}

func TestLeastOfNoRecord(t *testing.T) {
	for _, m := range []api.Message{
		{},
		{Flags: 2, Questions: asks(1, ex)},
		{Flags: 3},
		{Additional: list(opt(60))},
		{Answers: list(opt(60)), Authority: list(opt(1), opt(2)), Additional: list(opt(3))},
		{Questions: asks(41, ex), Answers: list(opt(60))},
		{Flags: 2, Questions: asks(1, ex), Additional: list(opt(60))},
	} {
		negative(t, m, false)
		least(t, m, 0)
	}
}
