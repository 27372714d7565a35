package dnsread_test

import (
	"math/rand"
	"strings"
	"testing"

	"nuncio/api"
	"nuncio/dnsread"
	"nuncio/name"
	"nuncio/rdata"
)

// told is what Name should tell, by recursion: at is a place of a part that began at below, size are the name's bytes ahead of it, what is read ends below end, and lack is told where it doesn't. Where a pointer may not be at all, bad is told.
func told(s string, at, below, size, end int, lack, bad api.Errno) (string, int, api.Errno) {
	if at < 0 || at >= end {
		return "", 0, lack
	}
	c := int(s[at])
	switch {
	case c == 0:
		return root, at + 1, api.OK
	case c > 191 && bad != api.OK:
		return "", 0, bad
	case c > 191 && at+2 > end:
		return "", 0, lack
	case c > 191:
		place := c%64*256 + int(s[at+1])
		if place >= below {
			return "", 0, api.ErrPointer
		}
		rest, _, e := told(s, place, place, size, len(s), api.ErrShort, api.OK)
		if e != api.OK {
			return "", 0, e
		}
		return rest, at + 2, api.OK
	case c > 63:
		return "", 0, api.ErrLabel
	case at+1+c > end:
		return "", 0, lack
	case size+1+c > 254:
		return "", 0, api.ErrName
	}
	rest, next, e := told(s, at+1+c, below, size+1+c, end, lack, bad)
	if e != api.OK {
		return "", 0, e
	}
	return s[at:at+1+c] + rest, next, api.OK
}

// open: does a name not end within the bytes that are ahead?
func open(s string) bool {
	if s == "" || s[0] > 191 {
		return len(s) < 2
	}
	size := int(s[0])
	if size == 0 || size > 63 {
		return false
	}
	return size >= len(s) || open(s[1+size:])
}

// cursor goes through a message's bytes and, where something is wrong, keeps the first error and stays there.
type cursor struct {
	s       string
	at, end int
	lack, e api.Errno
}

func (c *cursor) wrong(e api.Errno) {
	if c.e == api.OK {
		c.e = e
	}
}

func (c *cursor) take(n int) string {
	if c.e == api.OK && c.at+n > c.end {
		c.wrong(c.lack)
	}
	if c.e != api.OK {
		return ""
	}
	c.at += n
	return c.s[c.at-n : c.at]
}

func (c *cursor) num(n int) uint32 {
	sum := uint32(0)
	for _, b := range []byte(c.take(n)) {
		sum = sum*256 + uint32(b)
	}
	return sum
}

func (c *cursor) name(bad api.Errno) string {
	if c.e != api.OK {
		return ""
	}
	// A cursor that lacks ErrData goes through a record's data.
	if c.lack == api.ErrData && open(c.s[c.at:c.end]) {
		c.wrong(api.ErrData)
		return ""
	}
	n, next, e := told(c.s, c.at, c.at, 0, c.end, c.lack, bad)
	c.wrong(e)
	c.at = next
	return n
}

// data is the next size bytes as the data of a record.
func (c *cursor) data(r *api.Record, size int) {
	from := c.at
	if c.take(size); c.e != api.OK {
		return
	}
	d := &cursor{s: c.s, at: from, end: from + size, lack: api.ErrData}
	switch r.Type {
	case 2, 5, 12:
		r.Names = []string{d.name(api.OK)}
	case 6:
		r.Names = []string{d.name(api.OK), d.name(api.OK)}
		r.Nums = []uint32{d.num(4), d.num(4), d.num(4), d.num(4), d.num(4)}
	case 15:
		r.Nums = []uint32{d.num(2)}
		r.Names = []string{d.name(api.OK)}
	case 33:
		r.Nums = []uint32{d.num(2), d.num(2), d.num(2)}
		r.Names = []string{d.name(api.ErrData)}
	case 1:
		r.Texts = []string{d.take(4)}
	case 28:
		r.Texts = []string{d.take(16)}
	case 16:
		if size == 0 {
			d.wrong(api.ErrData)
		}
		for d.e == api.OK && d.at < d.end {
			r.Texts = append(r.Texts, d.take(int(d.num(1))))
		}
	default:
		r.Texts = []string{d.take(size)}
	}
	if d.at < d.end {
		d.wrong(api.ErrData)
	}
	c.wrong(d.e)
}

func (c *cursor) records(n int) []api.Record {
	var all []api.Record
	for i := 0; i < n && c.e == api.OK; i++ {
		r := api.Record{Name: c.name(api.OK)}
		r.Type, r.Class, r.TTL = uint16(c.num(2)), uint16(c.num(2)), c.num(4)
		c.data(&r, int(c.num(2)))
		if r.TTL >= 1<<31 && r.Type != 41 {
			c.wrong(api.ErrRange)
		}
		all = append(all, r)
	}
	return all
}

// model is what Read should tell.
func model(s string) (api.Message, api.Errno) {
	if len(s) > 65535 {
		return api.Message{}, api.ErrLong
	}
	c := &cursor{s: s, end: len(s), lack: api.ErrShort}
	m := api.Message{ID: uint16(c.num(2)), Flags: uint16(c.num(2))}
	q, a, b, d := int(c.num(2)), int(c.num(2)), int(c.num(2)), int(c.num(2))
	if q+a+b+d > 256 {
		c.wrong(api.ErrFull)
	}
	for i := 0; i < q && c.e == api.OK; i++ {
		m.Questions = append(m.Questions, api.Question{Name: c.name(api.OK), Type: uint16(c.num(2)), Class: uint16(c.num(2))})
	}
	m.Answers, m.Authority, m.Additional = c.records(a), c.records(b), c.records(d)
	if c.at < c.end {
		c.wrong(api.ErrMore)
	}
	if c.e != api.OK {
		return api.Message{}, c.e
	}
	return m, api.OK
}

// agree fails if Read tells what the model doesn't, or a message that couldn't be written; it answers the error.
func agree(t *testing.T, s string) api.Errno {
	want, e := model(s)
	m, got := dnsread.Read(s)
	if got != e || !alike(m, want) {
		t.Errorf("Read(%q) = %#v, %d, want %#v, %d", s, m, got, want, e)
	}
	for _, q := range m.Questions {
		if !name.Is(q.Name) {
			t.Errorf("Read(%q): %q is no name", s, q.Name)
		}
	}
	for _, list := range [][]api.Record{m.Answers, m.Authority, m.Additional} {
		for _, r := range list {
			if rdata.Check(r) != api.OK {
				t.Errorf("Read(%q): %#v isn't right", s, r)
			}
		}
	}
	return e
}

// each tells all texts of up to most bytes of an alphabet.
func each(alphabet string, most int, tell func(s string)) {
	var on func(b []byte)
	on = func(b []byte) {
		tell(string(b))
		if len(b) == most {
			return
		}
		for i := range len(alphabet) {
			on(append(b, alphabet[i]))
		}
	}
	on(make([]byte, 0, most))
}

func TestNamesOfAllShortTexts(t *testing.T) {
	each("\x00\x01\x02\x03\x40\xbf\xc0", 6, func(s string) {
		for at := range len(s) + 1 {
			want, next, e := told(s, at, at, 0, len(s), api.ErrShort, api.OK)
			if got, n, g := dnsread.Name(s, at); got != want || n != next || g != e {
				t.Errorf("Name(%q, %d) = %q, %d, %d, want %q, %d, %d", s, at, got, n, g, want, next, e)
			}
			if want != "" && !name.Is(want) {
				t.Errorf("%q is no name", want)
			}
		}
	})
}

func TestAllShortData(t *testing.T) {
	for _, p := range append(spots(), spot{api.TypeTXT, "", ""}, spot{api.TypeA, "", ""}, spot{99, "", ""}, spot{api.TypeMX, "", ""}, spot{api.TypeSRV, srv[:4], ""}) {
		// Pointers lead to the six numbers (a 0, and a 1), to the name's begin, to where it goes on, and far behind.
		near := string([]byte{byte(dataAt + len(p.ahead)), byte(dataAt + len(p.ahead) + 1)})
		each("\x00\x01\x03\x04\x40\xc0\xff"+near, 4, func(s string) {
			agree(t, alone(p.kind, p.ahead+s+p.behind))
			agree(t, alone(p.kind, p.ahead+s))
			agree(t, alone(p.kind, p.ahead+s)+"\x00\x01")
		})
	}
}

// maker makes messages, right ones mostly, and what is nearly one.
type maker struct {
	*rand.Rand
	b      strings.Builder
	places []int // where names begin
}

func (m *maker) any(texts ...string) string { return texts[m.Intn(len(texts))] }

// name is a name's bytes for the place at; a pointer may lead wherever a name began.
func (m *maker) name(at int, pointers bool) string {
	s := ""
	for range m.Intn(4) {
		s += m.any("\x01a", "\x02bc", "\x03www", label(1+m.Intn(63)))
	}
	if m.Intn(200) == 0 {
		s += labels(63, 63, 60+m.Intn(4), 1+m.Intn(63))
	}
	end := root
	if pointers && len(m.places) > 0 && m.Intn(2) == 0 {
		end = to(m.places[m.Intn(len(m.places))])
	}
	m.places = append(m.places, at)
	if len(s) > 0 && m.Intn(3) == 0 {
		m.places = append(m.places, at+1+int(s[0]))
	}
	return s + end
}

// data is a type's data for the place at.
func (m *maker) data(kind uint16, at int) string {
	switch kind {
	case 2, 5, 12:
		return m.name(at, true)
	case 6:
		first := m.name(at, true)
		return first + m.name(at+len(first), true) + four(m.Uint32()) + four(m.Uint32()) + four(m.Uint32()) + four(1) + four(0)
	case 15:
		return two(m.Intn(65536)) + m.name(at+2, true)
	case 33:
		return two(1) + two(m.Intn(65536)) + two(3) + m.name(at+6, m.Intn(20) == 0)
	case 16:
		s := label(m.Intn(20))
		for range m.Intn(3) {
			s += label(m.Intn(256))
		}
		return s
	case 1:
		return zs(4)
	case 28:
		return zs(16)
	}
	return zs(m.Intn(9))
}

// cut is data that mostly is whole.
func (m *maker) cut(data string) string {
	if m.Intn(20) == 0 {
		return data[:len(data)-m.Intn(min(len(data), 30)+1)]
	}
	return data
}

// message is one.
func (m *maker) message() string {
	m.b.Reset()
	m.places = nil
	counts := []int{m.Intn(3), m.Intn(4), m.Intn(3), m.Intn(3)}
	m.b.WriteString(numbers(counts...))
	for range counts[0] {
		m.b.WriteString(asked(m.name(m.b.Len(), true)))
	}
	for range counts[1] + counts[2] + counts[3] {
		kind := kinds()[m.Intn(12)]
		ttl := uint32(m.Intn(1 << 31))
		if m.Intn(30) == 0 {
			ttl = 1<<31 + ttl
		}
		name := m.name(m.b.Len(), true)
		m.b.WriteString(record(name, kind, ttl, m.cut(m.data(kind, m.b.Len()+len(name)+10))))
	}
	return m.b.String()
}

// marred is a message with some bytes that are others, more, or fewer.
func (m *maker) marred(s string) string {
	b := []byte(s)
	for range m.Intn(4) {
		if len(b) == 0 {
			break
		}
		at := m.Intn(len(b))
		c := m.any("\x00", "\x01", "\x02", "\x0c", "\x3f", "\x40", "\xbf", "\xc0", "\xc1", "\xff", string([]byte{byte(m.Intn(256))}), string([]byte{b[at] + 1}), string([]byte{b[at] - 1}))[0]
		switch m.Intn(10) {
		case 0:
			b = b[:at]
		case 1:
			b = append(b[:at], b[at+1:]...)
		case 2:
			b = append(b[:at], append([]byte{c}, b[at:]...)...)
		case 3:
			b = append(b, c)
		default:
			b[at] = c
		}
	}
	return string(b)
}

func TestMessagesOfManyKinds(t *testing.T) {
	m := &maker{Rand: rand.New(rand.NewSource(6))}
	seen := map[api.Errno]int{}
	for range 60000 {
		seen[agree(t, m.marred(m.message()))]++
		if t.Failed() {
			return
		}
	}
	for _, e := range []api.Errno{api.OK, api.ErrRange, api.ErrShort, api.ErrFull, api.ErrName, api.ErrLabel, api.ErrPointer, api.ErrData, api.ErrMore} {
		if seen[e] < 100 {
			t.Errorf("error %d was told %d times alone", e, seen[e])
		}
	}
}

func TestMessagesOfAnyBytes(t *testing.T) {
	r := rand.New(rand.NewSource(66))
	for range 20000 {
		b := make([]byte, r.Intn(120))
		for i := range b {
			if b[i] = byte(r.Intn(256)); r.Intn(2) == 0 {
				b[i] = "\x00\x00\x00\x01\x02\x06\xc0\x0c"[r.Intn(8)]
			}
		}
		if len(b) > begin {
			copy(b[4:], two(r.Intn(3))+two(r.Intn(3))+two(r.Intn(2))+two(r.Intn(2)))
		}
		agree(t, string(b))
	}
}
