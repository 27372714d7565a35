package pack_test

import (
	"slices"
	"strings"
	"testing"
	"unsafe"

	"nuncio/api"
	"nuncio/pack"
	"nuncio/table"
	"nuncio/unpack"
)

// P13.1: Table; and whose memory the answers are.

// A table that was told is told nothing of what comes, nor does the encoder hear of what becomes of it.
func TestTableIsACopyThatGoesItsOwnWay(t *testing.T) {
	a, b, x := field("a", "1"), field("b", "2"), field("x", "y")
	laid := func(f api.Field) string { return added(0, plain(f.Name)+plain(f.Value)) }
	c := limited(100)
	writes(t, c, laid(a)+laid(b), a, b)
	first, second := c.Table(), c.Table()
	first.Add("x", "y")
	first.Resize(300)
	tableHolds(t, first, 300, x, b)
	tableHolds(t, second, 100, b, a)
	holds(t, c, 100, b, a)
	writes(t, c, index(62)+index(63), b, a)

	writes(t, c, laid(x), x)
	holds(t, c, 100, x, b)
	tableHolds(t, first, 300, x, b)
	tableHolds(t, second, 100, b, a)

	c.Limit(34)
	holds(t, c, 34, x)
	tableHolds(t, first, 300, x, b)
	tableHolds(t, second, 100, b, a)

	second.Resize(0)
	holds(t, c, 34, x)
	writes(t, c, size(34)+index(62), x)
	third := c.Table()
	third.Resize(0)
	third.Resize(200)
	third.Add("a", "1")
	writes(t, c, index(62)+other(0, plain("n")+plain("vv"))+neverLaid(0, plain("a")+plain("1")), x, field("n", "vv"), never("a", "1"))
	tableHolds(t, third, 200, a)
	holds(t, c, 34, x)
}

// What becomes of a table that was told is no Limit.
func TestATableThatIsToldGivesNoSizes(t *testing.T) {
	c := pack.New()
	c.Table().Resize(50)
	writes(t, c, "")
	c.Limit(100)
	c.Table().Resize(50)
	writes(t, c, size(100))
	c.Table().Resize(4096)
	c.Limit(100)
	writes(t, c, "")
	holds(t, c, 100)
}

func TestAskingChangesNothing(t *testing.T) {
	a := field("a", "1")
	c := pack.New()
	c.Limit(50)
	for range 3 {
		holds(t, c, 50)
	}
	writes(t, c, size(50)+added(0, plain("a")+plain("1")), a)
	for range 3 {
		holds(t, c, 50, a)
		writes(t, c, index(62), a)
	}
}

// Encoders know nothing of one another.
func TestEncodersGoTheirOwnWay(t *testing.T) {
	a := field("a", "1")
	one, two := pack.New(), pack.New()
	writes(t, one, added(0, plain("a")+plain("1")), a)
	one.Limit(50)
	holds(t, two, 4096)
	writes(t, two, added(0, plain("a")+plain("1")), a)
	two.Limit(40)
	writes(t, one, size(50)+index(62), a)
	writes(t, two, size(40)+index(62), a)
}

// meet: have two texts some bytes in common?
func meet(a, b string) bool {
	fromA, fromB := uintptr(unsafe.Pointer(unsafe.StringData(a))), uintptr(unsafe.Pointer(unsafe.StringData(b)))
	return fromA < fromB+uintptr(len(b)) && fromB < fromA+uintptr(len(a))
}

func TestBlocksAreNewMemory(t *testing.T) {
	var fields []api.Field
	var all []string
	for _, f := range []api.Field{field("name", "value"), field("custom-key", "custom-value"), field("name", "value"), never("\x00\x01", "\x02\x03"), field("via", "\x04\x05"), field("x", bare(5000))} {
		f.Name, f.Value = strings.Clone(f.Name), strings.Clone(f.Value)
		fields = append(fields, f)
		all = append(all, f.Name, f.Value)
	}
	c := pack.New()
	for range 3 {
		c.Limit(300)
		all = append(all, c.Write(fields...), c.Write(fields[3]), c.Write(fields[3]))
		c.Limit(400)
		all = append(all, c.Write())
	}
	for i, a := range all {
		for _, b := range all[:i] {
			if meet(a, b) {
				t.Errorf("%s and %s share memory", told(a), told(b))
			}
		}
		if !meet(a, a) {
			t.Errorf("%s doesn't meet itself", told(a))
		}
	}
}

func TestTablesAreNewMemory(t *testing.T) {
	c := pack.New()
	var all []*table.Table
	for range 4 {
		all = append(all, c.Table())
		all = append(all, c.Table())
		c.Write(field("x", "y"))
	}
	for i, x := range all {
		if slices.Contains(all[:i], x) {
			t.Errorf("table %d was told before", i)
		}
	}
}

// What is handed in stays, its spare room too.
func TestFieldsAreNotChanged(t *testing.T) {
	room := []api.Field{entry(2), field("name", "value"), never("name", "value"), field("custom-key", "custom-value"), field("x", bare(5000)), field("spare", "room"), never("spare", "room")}
	was := slices.Clone(room)
	for _, c := range []*pack.Encoder{pack.New(), limited(0), limited(50)} {
		c.Write(room[:5]...)
		c.Write(room[:0]...)
		c.Write(room[1:2]...)
		c.Limit(20)
		c.Write(room[:5]...)
	}
	if !slices.Equal(room, was) {
		t.Errorf("%s became %s", toldFields(was), toldFields(room))
	}
}

// Texts and lists that were handed in may be changed by who can do so; what was written of them stays, in the table, too.
func TestFieldsAreNotKept(t *testing.T) {
	b := []byte("namevalue")
	fields := []api.Field{field(unsafe.String(&b[0], 4), unsafe.String(&b[4], 5)), never(unsafe.String(&b[0], 9), unsafe.String(&b[4], 0))}
	c, d := pack.New(), unpack.New()
	block := c.Write(fields...)
	clear(b)
	clear(fields)
	f := field("name", "value")
	holds(t, c, 4096, f)
	writes(t, c, index(62), f)
	writes(t, c, neverLaid(0, plain(string(b[:4]))+plain("v")), never(string(b[:4]), "v"))
	follows(t, d, c, block, f, never("namevalue", ""))
}
