package query_test

import (
	"math"
	"slices"
	"testing"

	"nuncio/api"
	"nuncio/dnsread"
	"nuncio/dnswrite"
	"nuncio/query"
)

// P8.1: Ask; P8.2: Make; P8.5: that a query that was made asks its key again.

func TestAsk(t *testing.T) {
	asked(t, api.Message{Flags: api.FlagRD, Questions: asks(api.TypeA, ex)}, api.Key{Name: ex, Type: 1, Class: 1})
	asked(t, api.Message{ID: 9, Questions: asks(api.TypeMX, root)}, api.Key{Name: root, Type: 15, Class: 1})
	asked(t, api.Message{Questions: asks(0, longest())}, api.Key{Name: longest(), Class: 1})
	asked(t, api.Message{Questions: []api.Question{{Name: ex, Type: 255, Class: 65535}}}, api.Key{Name: ex, Type: 255, Class: 65535})
	asked(t, api.Message{Questions: asks(28, big), Answers: []api.Record{}, Authority: []api.Record{}, Additional: list(opt(32768))}, api.Key{Name: ex, Type: 28, Class: 1, DO: true})
}

func TestAskOfAnyFlags(t *testing.T) {
	for flags := range 1 << 16 {
		m := api.Message{Flags: uint16(flags), Questions: asks(1, ex)}
		// QR and the opcode are the five highest bits.
		if flags < 2048 {
			asked(t, m, api.Key{Name: ex, Type: 1, Class: 1})
			continue
		}
		refused(t, m)
	}
}

func TestAskOfAnyIDTypeAndClass(t *testing.T) {
	for n := range 1 << 16 {
		v := uint16(n)
		asked(t, api.Message{ID: v, Questions: asks(1, ex)}, api.Key{Name: ex, Type: 1, Class: 1})
		asked(t, api.Message{Questions: []api.Question{{Name: ex, Type: 7, Class: v}}}, api.Key{Name: ex, Type: 7, Class: v})
		m := api.Message{Questions: []api.Question{{Name: ex, Type: v, Class: ^v}}}
		if v == 41 {
			refused(t, m)
			continue
		}
		asked(t, m, api.Key{Name: ex, Type: v, Class: ^v})
	}
}

func TestAskOfJustOneQuestion(t *testing.T) {
	for _, names := range [][]string{{}, {ex, ex}, {ex, root}, {root, ex}, {ex, ""}, {"", ex}, {ex, ex, ex}, slices.Repeat([]string{ex}, 257)} {
		refused(t, api.Message{Flags: api.FlagRD, Questions: asks(1, names...)})
	}
	refused(t, api.Message{})
	refused(t, api.Message{Questions: []api.Question{}, Additional: list(opt(0))})
	refused(t, api.Message{Questions: append(asks(41, ex), asks(1, ex)...)})
	refused(t, api.Message{Questions: append(asks(1, ex), asks(41, ex)...)})
}

func TestAskOfRecords(t *testing.T) {
	for _, kind := range []uint16{0, 1, 5, 6, 41, 65535} {
		for _, n := range []int{1, 2, 300} {
			records := slices.Repeat(list(of(kind, 1<<15)), n)
			refused(t, api.Message{Questions: asks(1, ex), Answers: records})
			refused(t, api.Message{Questions: asks(1, ex), Authority: records})
			refused(t, api.Message{Questions: asks(1, ex), Answers: records, Authority: records})
			refused(t, api.Message{Questions: asks(1, ex), Authority: records, Additional: list(opt(1 << 15))})
			asked(t, api.Message{Questions: asks(1, ex), Additional: records}, api.Key{Name: ex, Type: 1, Class: 1, DO: kind == 41})
		}
	}
}

func TestAskOfNoName(t *testing.T) {
	for _, n := range noNames() {
		for _, kind := range []uint16{0, 1, 41} {
			refused(t, api.Message{Questions: asks(kind, n)})
			refused(t, api.Message{Questions: asks(kind, n), Additional: list(opt(1 << 15))})
		}
	}
}

func TestAskFoldsLettersAlone(t *testing.T) {
	for c := range 256 {
		folded := byte(c)
		if c >= 65 && c <= 90 {
			folded += 32
		}
		n, want := "\x03a"+string([]byte{byte(c), 'B'})+"\x00", "\x03a"+string([]byte{folded, 'b'})+"\x00"
		asked(t, api.Message{Questions: asks(1, n)}, api.Key{Name: want, Type: 1, Class: 1})
	}
	// A label of 65 bytes or more, whose length would be a letter, can't be.
	refused(t, api.Message{Questions: asks(1, "A"+zs(65)+root)})
	asked(t, api.Message{Questions: asks(1, "\x01A\x04A.\x00Z\x00")}, api.Key{Name: "\x01a\x04a.\x00z\x00", Type: 1, Class: 1})
}

func TestDO(t *testing.T) {
	const all = math.MaxUint32
	tests := []struct {
		additional []api.Record
		want       bool
	}{
		{nil, false},
		{list(of(1, all)), false},
		{list(of(42, 1<<15), of(40, 1<<15)), false},
		{list(opt(1 << 15)), true},
		{list(opt(all)), true},
		{list(opt(0)), false},
		{list(opt(all - 1<<15)), false},
		{list(opt(1<<15 + 1)), true},
		{list(opt(1<<15 - 1)), false},
		{list(opt(1 << 16)), false},
		{list(of(1, 0), opt(1<<15)), true},
		{list(of(1, all), opt(0)), false},
		{list(of(1, 0), of(16, 0), opt(1<<15), of(1, 0)), true},
		{list(opt(1<<15), opt(0)), true},
		{list(opt(0), opt(1<<15)), false},
		{list(of(1, 0), opt(0), of(1, all), opt(all)), false},
		{list(of(1, 0), opt(all), of(1, 0), opt(0)), true},
		// Its name, its class and its data play no part.
		{list(api.Record{Name: "x", Type: 41, Class: 0, TTL: 1 << 15}), true},
		{list(api.Record{Name: ex, Type: 41, Class: 32768, TTL: 0, Nums: []uint32{1 << 15}, Texts: []string{"\x80\x00"}}), false},
	}
	for _, x := range tests {
		asked(t, api.Message{Questions: asks(1, ex), Additional: x.additional}, api.Key{Name: ex, Type: 1, Class: 1, DO: x.want})
	}
	for bit := range 32 {
		ttl := uint32(1) << bit
		asked(t, api.Message{Questions: asks(1, ex), Additional: list(opt(ttl))}, api.Key{Name: ex, Type: 1, Class: 1, DO: bit == 15})
		asked(t, api.Message{Questions: asks(1, ex), Additional: list(opt(^ttl))}, api.Key{Name: ex, Type: 1, Class: 1, DO: bit != 15})
	}
}

func TestAskLeavesAllElseOutOfIt(t *testing.T) {
	m := api.Message{ID: 65535, Flags: 0x07ff, Questions: []api.Question{{Name: big, Type: 6, Class: 3}}, Additional: list(of(1, 5), opt(1<<15), soa(1, 1))}
	asked(t, m, api.Key{Name: ex, Type: 6, Class: 3, DO: true})
}

// keys are some that queries may have.
func keys() []api.Key {
	var all []api.Key
	for _, n := range []string{root, ex, longest(), "\x01\x00\x00", "\x03\xff.\\\x00"} {
		for _, kind := range []uint16{0, 1, 5, 6, 40, 42, 255, 65535} {
			all = append(all, api.Key{Name: n, Type: kind, Class: 1}, api.Key{Name: n, Type: kind, Class: 1, DO: true}, api.Key{Name: n, Type: 1, Class: kind, DO: kind > 5})
		}
	}
	return all
}

// made fails if a key's query isn't as it should be.
func made(t *testing.T, id uint16, k api.Key) {
	t.Helper()
	want := api.Message{ID: id, Flags: 256, Questions: []api.Question{{Name: k.Name, Type: k.Type, Class: k.Class}}}
	if k.DO {
		want.Additional = list(api.Record{Name: "\x00", Type: 41, Class: 65535, TTL: 32768, Texts: []string{""}})
	}
	same(t, query.Make(id, k), want)
}

func TestMake(t *testing.T) {
	for _, k := range keys() {
		for _, id := range []uint16{0, 1, 255, 256, 65535} {
			made(t, id, k)
		}
	}
	for n := range 1 << 16 {
		v := uint16(n)
		made(t, v, api.Key{Name: ex, Type: ^v, Class: v, DO: n%2 == 0})
	}
}

func TestMakeOfAnyKey(t *testing.T) {
	made(t, 7, api.Key{})
	for _, n := range append(noNames(), big) {
		for _, kind := range []uint16{1, 41} {
			made(t, 7, api.Key{Name: n, Type: kind, Class: 1})
			made(t, 7, api.Key{Name: n, Type: kind, Class: 1, DO: true})
		}
	}
}

func TestAQueryThatWasMadeAsksItsKey(t *testing.T) {
	for i, k := range keys() {
		m := query.Make(uint16(i), k)
		asked(t, m, k)
		s, e := dnswrite.Write(m)
		if e != api.OK {
			t.Errorf("%s can't be written: %d", tell(m), e)
		}
		n, e := dnsread.Read(s)
		if e != api.OK || n.ID != uint16(i) {
			t.Errorf("%q is read as %s, %d", s, tell(n), e)
		}
		asked(t, n, k)
		// It is no answer yet; its answer fits it.
		fits(t, k, uint16(i), n, false)
		n.Flags |= api.FlagQR
		fits(t, k, uint16(i), n, true)
		fits(t, k, uint16(i), query.Fail(uint16(i), m), true)
	}
}

func TestTheBytesOfAQueryThatWasMade(t *testing.T) {
	const question = "\x03www\x02ex\x00\x00\x1c\x00\x01"
	for do, want := range map[bool]string{
		false: "\x12\x34\x01\x00\x00\x01\x00\x00\x00\x00\x00\x00" + question,
		true:  "\x12\x34\x01\x00\x00\x01\x00\x00\x00\x00\x00\x01" + question + "\x00\x00\x29\xff\xff\x00\x00\x80\x00\x00\x00",
	} {
		s, e := dnswrite.Write(query.Make(0x1234, api.Key{Name: ex, Type: 28, Class: 1, DO: do}))
		if s != want || e != api.OK {
			t.Errorf("DO %v: %q, %d", do, s, e)
		}
	}
}

func TestAKeyIsAskedByAllWhoAskIt(t *testing.T) {
	// Whatever they write in letters of either size, and whatever they want beside it.
	want := api.Key{Name: ex, Type: 1, Class: 1}
	for _, n := range []string{ex, big, "\x03WWW\x02EX\x00"} {
		for _, flags := range []uint16{0, api.FlagRD, api.FlagTC, 0x07f0} {
			asked(t, api.Message{ID: flags, Flags: flags, Questions: asks(1, n)}, want)
			asked(t, api.Message{ID: flags, Flags: flags, Questions: asks(1, n), Additional: list(opt(0))}, want)
		}
	}
}
