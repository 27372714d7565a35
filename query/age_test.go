package query_test

import (
	"math"
	"math/bits"
	"slices"
	"testing"

	"nuncio/api"
	"nuncio/num"
	"nuncio/query"
)

// P8.4: Age, Fail; P8.5: what was aged twice; Least as time goes by; and that what is handed in stays, and answers are new memory.

// older is a TTL behind some seconds.
func older(ttl uint32, seconds uint64) uint32 {
	left, borrowed := bits.Sub64(uint64(ttl), seconds, 0)
	if borrowed != 0 {
		return 0
	}
	return uint32(left)
}

// times are numbers of seconds about these TTLs, and about the greatest numbers.
func times(ttls ...uint32) []uint64 {
	all := []uint64{0, 1, 2, math.MaxInt32, 1 << 31, math.MaxUint32 - 1, math.MaxUint32, 1 << 32, 1<<32 + 1, 1<<33 - 1, 1<<63 - 1, 1 << 63, math.MaxUint64 - 1, math.MaxUint64}
	for _, ttl := range ttls {
		n := uint64(ttl)
		all = append(all, n, n+1, n+2, n+1<<32, n+1<<33, n+1<<63, math.MaxUint64-n, math.MaxUint64-math.MaxUint32+n)
		if n > 0 {
			all = append(all, n-1, n/2)
		}
	}
	return all
}

var someTTLs = []uint32{0, 1, 2, 60, 300, 65535, 65536, math.MaxInt32, 1 << 31, math.MaxUint32 - 1, math.MaxUint32}

func TestTheExampleOfAge(t *testing.T) {
	m := api.Message{Flags: 0x8180, Questions: asks(1, ex), Answers: list(of(5, 60), of(1, 300))}
	want := m
	want.Answers = list(of(5, 0), of(1, 200))
	same(t, query.Age(m, 100), want)
}

func TestAge(t *testing.T) {
	for _, seconds := range times(someTTLs...) {
		m, want := rich(), rich()
		for i := range 3 {
			lists := []*[]api.Record{&m.Answers, &m.Authority, &m.Additional}
			wanted := []*[]api.Record{&want.Answers, &want.Authority, &want.Additional}
			for _, ttl := range someTTLs {
				*lists[i] = append(*lists[i], of(1, ttl), of(uint16(ttl)|64, ttl), opt(ttl))
				*wanted[i] = append(*wanted[i], of(1, ttl), of(uint16(ttl)|64, ttl), opt(ttl))
			}
			for j, r := range *wanted[i] {
				if r.Type != 41 {
					(*wanted[i])[j].TTL = older(r.TTL, seconds)
				}
			}
		}
		same(t, query.Age(m, seconds), want)
	}
}

func TestAgeOfEachType(t *testing.T) {
	for kind := range 1 << 16 {
		m, want := of(uint16(kind), 60), of(uint16(kind), 40)
		if kind == 41 {
			want.TTL = 60
		}
		same(t, query.Age(api.Message{Answers: list(m)}, 20), api.Message{Answers: list(want)})
		same(t, query.Age(api.Message{Authority: list(m, m)}, 20), api.Message{Authority: list(want, want)})
		same(t, query.Age(api.Message{Additional: list(m, opt(7), m)}, 20), api.Message{Additional: list(want, opt(7), want)})
	}
}

func TestAgeOfNothing(t *testing.T) {
	for _, seconds := range times() {
		same(t, query.Age(api.Message{}, seconds), api.Message{})
		same(t, query.Age(api.Message{ID: 1, Flags: 65535, Questions: asks(41, "x"), Answers: []api.Record{}}, seconds), api.Message{ID: 1, Flags: 65535, Questions: asks(41, "x")})
		// Records that are wrong are aged, too.
		same(t, query.Age(api.Message{Answers: list(api.Record{TTL: math.MaxUint32})}, seconds), api.Message{Answers: list(api.Record{TTL: older(math.MaxUint32, seconds)})})
	}
}

func TestAgedTwice(t *testing.T) {
	m := rich()
	for _, ttl := range someTTLs {
		m.Answers, m.Authority, m.Additional = append(m.Answers, of(1, ttl)), append(m.Authority, soa(ttl, 60)), append(m.Additional, opt(ttl), of(1, ttl))
	}
	for _, first := range times(someTTLs[:5]...) {
		for _, second := range times(someTTLs[3:]...) {
			// Where the sum would be greater than the greatest number, all is over long since.
			same(t, query.Age(query.Age(m, first), second), query.Age(m, num.Add64(first, second)))
		}
	}
}

// holding are answers of all kinds.
func holding() []api.Message {
	all := slices.Concat(negatives(), negatives(of(2, 4)), laid(), laid(opt(5), opt(0)), laid(ttls(60, 0, 300)...), laid(ttls(60, 61, 300)...), laid(opt(3), of(28, 100), soa(90, 30)))
	for _, ttl := range someTTLs {
		for _, minimum := range someTTLs {
			all = append(all, negatives(of(2, 1), soa(ttl, minimum))...)
		}
	}
	short := soa(60, 60)
	short.Nums = short.Nums[:4]
	return append(append(all, negatives(short)...), rich())
}

func TestLeastFallsAsTimeGoesBy(t *testing.T) {
	for _, m := range holding() {
		hold := query.Least(m)
		seconds := times(59, 60, 90, 300, hold)
		slices.Sort(seconds)
		last := hold
		for _, n := range seconds {
			aged := query.Age(m, n)
			now := query.Least(aged)
			if query.Negative(aged) != query.Negative(m) {
				t.Errorf("%s behind %d seconds: negative %v", tell(m), n, query.Negative(aged))
			}
			if now > last || !query.Negative(m) && now != older(hold, n) || now < older(hold, n) {
				t.Errorf("%s holds for %d, behind %d seconds for %d, somewhat before for %d", tell(m), hold, n, now, last)
			}
			last = now
		}
		if last != 0 {
			t.Errorf("%s holds for %d when all is over", tell(m), last)
		}
	}
}

func TestLeastOfANegativeAnswerThatWasAged(t *testing.T) {
	// Of the SOA its TTL alone is aged; MINIMUM is data.
	m := api.Message{Flags: 3, Questions: asks(1, ex), Authority: list(soa(900, 300))}
	for _, x := range []struct {
		seconds uint64
		want    uint32
	}{{0, 300}, {1, 300}, {600, 300}, {601, 299}, {899, 1}, {900, 0}, {901, 0}, {math.MaxUint64, 0}} {
		least(t, query.Age(m, x.seconds), x.want)
	}
	m.Authority = list(soa(300, 900))
	least(t, query.Age(m, 1), 299)
}

func TestFail(t *testing.T) {
	for flags := range 1 << 16 {
		want := uint16(0x8082)
		if flags/256%2 == 1 {
			want = 0x8182
		}
		m := rich()
		m.Flags = uint16(flags)
		same(t, query.Fail(uint16(flags)^5, m), api.Message{ID: uint16(flags) ^ 5, Flags: want, Questions: m.Questions})
	}
}

func TestFailOfAnyQuestions(t *testing.T) {
	for _, q := range [][]api.Question{nil, {}, asks(1, ex), asks(41, big), asks(0, root, ex, longest()), asks(1, noNames()...), asks(1, slices.Repeat([]string{ex}, 300)...)} {
		m := api.Message{ID: 7, Flags: 0x0110, Questions: q, Additional: list(opt(1 << 15))}
		same(t, query.Fail(9, m), api.Message{ID: 9, Flags: 0x8182, Questions: q})
	}
}

func TestAFailureTellsNothing(t *testing.T) {
	f := query.Fail(3, rich())
	negative(t, f, false)
	least(t, f, 0)
	refused(t, f)
}

// calls are all of the package's, with what they answer of a message.
func calls(m api.Message) []api.Message {
	k, _ := query.Ask(m)
	query.Fits(k, m.ID, m)
	query.Negative(m)
	query.Least(m)
	return []api.Message{query.Age(m, 0), query.Age(m, 50), query.Age(m, math.MaxUint64), query.Fail(1, m)}
}

// handed are messages of all kinds, in memory of their own.
func handed() []api.Message {
	one := rich()
	one.Flags = 0x0100
	one.Questions = one.Questions[:1]
	one.Answers, one.Authority = nil, nil
	none := rich()
	none.Flags = 0x8180
	none.Answers = none.Answers[:1]
	good := rich()
	good.Flags = 0x8180
	all := []api.Message{rich(), one, none, good, {}, {Flags: 3, Questions: asks(1, "x")}}
	for _, m := range slices.Concat(negatives(of(2, 1), soa(900, 300)), laid(of(1, 60), opt(5), soa(50, 40))) {
		all = append(all, cloned(m))
	}
	return all
}

func TestWhatIsHandedInStays(t *testing.T) {
	for _, m := range handed() {
		kept, room := cloned(m), stretched(spacious(m))
		m = spacious(m)
		first, second := calls(m), calls(m)
		same(t, m, kept)
		same(t, stretched(m), room)
		for i := range first {
			same(t, second[i], first[i])
		}
	}
}

func TestAnswersAreNewMemory(t *testing.T) {
	for _, m := range handed() {
		m = spacious(m)
		first, second := calls(m), calls(m)
		for i := range first {
			apart(t, m, first[i])
			apart(t, first[i], second[i])
		}
	}
}

func TestAnswersOfListsThatShareMemory(t *testing.T) {
	records := rich().Answers
	m := api.Message{Questions: asks(1, ex), Answers: records, Authority: records[1:], Additional: records}
	for i := range records {
		records[i].Names, records[i].Nums, records[i].Texts = records[1].Names, records[4].Nums, records[2].Texts
	}
	want := cloned(m)
	for _, list := range [][]api.Record{want.Answers, want.Authority, want.Additional} {
		for i, r := range list {
			if r.Type != 41 {
				list[i].TTL = older(r.TTL, 11)
			}
		}
	}
	aged := query.Age(m, 11)
	same(t, aged, want)
	apart(t, m, aged)
}

func TestKeysAndQueriesAreNewMemory(t *testing.T) {
	m := cloned(api.Message{Questions: asks(1, ex)})
	k, _ := query.Ask(m)
	if shared(textsOf(m), []span{spanOfText(k.Name)}) > 0 {
		t.Error("a key has its name of the query")
	}
	for _, do := range []bool{false, true} {
		k.DO = do
		q := query.Make(1, k)
		if shared(textsOf(q), []span{spanOfText(k.Name)}) > 0 {
			t.Error("a query has its name of the key")
		}
		apart(t, q, query.Make(1, k))
	}
}

func TestAnswersMayBeChanged(t *testing.T) {
	m := spacious(rich())
	for _, out := range calls(m) {
		for _, list := range [][]api.Record{out.Answers, out.Authority, out.Additional} {
			for i := range list {
				for j := range list[i].Names {
					list[i].Names[j] = ""
				}
				for j := range list[i].Nums {
					list[i].Nums[j] = 0
				}
				for j := range list[i].Texts {
					list[i].Texts[j] = ""
				}
				list[i] = api.Record{}
			}
			_ = append(list, api.Record{Name: "more"})
		}
		for i := range out.Questions {
			out.Questions[i] = api.Question{}
		}
		_ = append(out.Questions, api.Question{Name: "more"})
	}
	same(t, m, rich())
	same(t, stretched(m), stretched(spacious(rich())))
}
