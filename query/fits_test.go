package query_test

import (
	"testing"

	"nuncio/api"
	"nuncio/query"
)

// P8.2: Fits.

var key = api.Key{Name: ex, Type: 28, Class: 1, DO: true}

// right is an answer that fits that key and the ID 9.
func right() api.Message {
	return api.Message{ID: 9, Flags: 0x8180, Questions: asks(28, big), Answers: list(of(28, 60)), Authority: list(of(2, 60)), Additional: list(of(1, 60), opt(0))}
}

func TestFits(t *testing.T) {
	fits(t, key, 9, right(), true)
	fits(t, api.Key{Name: root}, 0, api.Message{Flags: api.FlagQR, Questions: []api.Question{{Name: root}}}, true)
	fits(t, api.Key{}, 0, api.Message{}, false)
}

func TestFitsAnyFlags(t *testing.T) {
	for flags := range 1 << 16 {
		m := right()
		m.Flags = uint16(flags)
		qr, opcode, tc := flags/32768, flags/2048%16, flags/512%2
		fits(t, key, 9, m, qr == 1 && opcode == 0 && tc == 0)
	}
}

func TestFitsItsIDAlone(t *testing.T) {
	for id := range 1 << 16 {
		fits(t, key, uint16(id), right(), id == 9)
		m := right()
		m.ID = uint16(id)
		fits(t, key, 9, m, id == 9)
		fits(t, key, uint16(id), m, true)
	}
}

func TestFitsItsTypeAndClassAlone(t *testing.T) {
	for n := range 1 << 16 {
		m := right()
		m.Questions[0].Type = uint16(n)
		fits(t, key, 9, m, n == 28)
		fits(t, api.Key{Name: ex, Type: uint16(n), Class: 1}, 9, m, true)
		m = right()
		m.Questions[0].Class = uint16(n)
		fits(t, key, 9, m, n == 1)
		fits(t, api.Key{Name: ex, Type: 28, Class: uint16(n)}, 9, m, true)
	}
	m := right()
	m.Questions[0].Type, m.Questions[0].Class = 1, 28
	fits(t, key, 9, m, false)
}

func TestFitsItsNameAlone(t *testing.T) {
	for _, n := range append(noNames(), root, longest(), "\x02ex\x00", "\x03www\x02ey\x00", "\x03www\x03ex.\x00", "\x06www\x02ex\x00", "\x03www\x02ex\x01a\x00", "\x03ww7\x02ex\x00", "\x03\x57\x57\x17\x02ex\x00") {
		m := right()
		m.Questions[0].Name = n
		fits(t, key, 9, m, false)
	}
	for _, n := range []string{ex, big, "\x03WWW\x02EX\x00"} {
		m := right()
		m.Questions[0].Name = n
		fits(t, key, 9, m, true)
		// A key's name is folded; of one that isn't, no folded name is the same.
		fits(t, api.Key{Name: n, Type: 28, Class: 1}, 9, m, n == ex)
	}
}

func TestFitsWithOneQuestion(t *testing.T) {
	good, other := asks(28, ex)[0], asks(28, root)[0]
	for _, list := range [][]api.Question{nil, {}, {good, good}, {good, other}, {other, good}, {good, good, good}, {other}} {
		m := right()
		m.Questions = list
		fits(t, key, 9, m, false)
	}
	m := right()
	m.Questions = []api.Question{good}
	fits(t, key, 9, m, true)
}

func TestFitsWhateverElseThereIs(t *testing.T) {
	for _, do := range []bool{false, true} {
		k := key
		k.DO = do
		for _, additional := range [][]api.Record{nil, list(opt(0)), list(opt(1 << 15)), list(of(1, 1), opt(1<<15))} {
			m := right()
			m.Additional = additional
			fits(t, k, 9, m, true)
			m.Answers, m.Authority = nil, nil
			fits(t, k, 9, m, true)
			m.Answers, m.Authority = list(of(5, 0), api.Record{}), list(soa(1, 1), opt(1<<15))
			fits(t, k, 9, m, true)
		}
	}
}

func TestFitsOfNoName(t *testing.T) {
	for _, n := range noNames() {
		m := right()
		m.Questions[0].Name = n
		// What is no name is the empty text when it is folded, so it isn't itself then, but for the empty text.
		fits(t, api.Key{Name: n, Type: 28, Class: 1}, 9, m, n == "")
		fits(t, api.Key{Name: "", Type: 28, Class: 1}, 9, m, true)
	}
	fits(t, api.Key{Name: "", Type: 28, Class: 1}, 9, right(), false)
}

func TestOneConditionOfManyBroken(t *testing.T) {
	for i, turn := range []func(m *api.Message, k *api.Key){
		func(m *api.Message, k *api.Key) { m.ID++ },
		func(m *api.Message, k *api.Key) { m.Flags ^= api.FlagQR },
		func(m *api.Message, k *api.Key) { m.Flags ^= api.FlagTC },
		func(m *api.Message, k *api.Key) { m.Flags ^= 1 << 11 },
		func(m *api.Message, k *api.Key) { m.Flags ^= 1 << 14 },
		func(m *api.Message, k *api.Key) { m.Questions = nil },
		func(m *api.Message, k *api.Key) { m.Questions = append(m.Questions, m.Questions[0]) },
		func(m *api.Message, k *api.Key) { m.Questions[0].Name = root },
		func(m *api.Message, k *api.Key) { m.Questions[0].Type++ },
		func(m *api.Message, k *api.Key) { m.Questions[0].Class++ },
		func(m *api.Message, k *api.Key) { k.Name = root },
		func(m *api.Message, k *api.Key) { k.Type++ },
		func(m *api.Message, k *api.Key) { k.Class++ },
	} {
		m, k := right(), key
		turn(&m, &k)
		if query.Fits(k, 9, m) {
			t.Errorf("change %d: %#v, %s", i, k, tell(m))
		}
	}
}
