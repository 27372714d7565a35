package unpack_test

import (
	"fmt"
	"strings"
	"testing"

	"nuncio/api"
	"nuncio/unpack"
)

// P12.2: who is down, and the table that is told.

func TestNotDownWhileNothingIsWrong(t *testing.T) {
	d := unpack.New()
	for range 100 {
		reads(t, d, size(0)+size(4096)+"\x82"+add(field("a", "b")), entry(2), field("a", "b"))
		reads(t, d, "")
		reads(t, d, size(100))
	}
}

func TestADecoderThatIsDownStaysSo(t *testing.T) {
	for _, w := range append(wrongs(), wrong{"a 65th field", some(65, "\x82"), api.ErrList}, wrong{"a size behind a field", "\x82\x20", api.ErrResize}) {
		t.Run(w.name, func(t *testing.T) {
			d := unpack.New()
			reads(t, d, add(field("a", "b")), field("a", "b"))
			fails(t, d, w.block, w.want)
			blocks := []string{"", "\x82", index(62), size(0), size(4096), add(field("c", "d")), neverAdded("c", "d"), "\x80", some(65, "\x82"), "\x82\x20"}
			for _, again := range wrongs() {
				blocks = append(blocks, again.block)
			}
			for range 2 {
				for _, block := range blocks {
					fails(t, d, block, api.ErrState)
				}
			}
			holds(t, d, 4096, field("a", "b"))
		})
	}
}

// What was right ahead of it in the block counts, and nothing else of it.
func TestTheTableOfADecoderThatIsDown(t *testing.T) {
	a, b, c := field("a", "1"), field("b", "2"), field("c", "3")
	for _, w := range wrongs() {
		t.Run(w.name, func(t *testing.T) {
			d := unpack.New()
			reads(t, d, add(a), a)
			block := w.block
			if w.whole() {
				block += add(b)
			}
			fails(t, d, block, w.want)
			holds(t, d, 4096, a)

			d = unpack.New()
			reads(t, d, add(a), a)
			fails(t, d, add(b)+neverAdded("x", "y")+add(c)+w.block, w.want)
			holds(t, d, 4096, c, b, a)

			d = unpack.New()
			reads(t, d, add(a)+add(b), a, b)
			fails(t, d, size(68)+add(c)+w.block, w.want)
			holds(t, d, 68, c, b)

			d = unpack.New()
			reads(t, d, add(a)+add(b), a, b)
			fails(t, d, size(0)+size(1000)+w.block, w.want)
			holds(t, d, 1000)
		})
	}
}

// One that is to be added is there only if all of it was right.
func TestAFieldThatIsWrongIsNotAdded(t *testing.T) {
	a := field("a", "1")
	for _, block := range []string{"\x40", "\x40\x01", "\x40\x01n", "\x40\x01n\x02v", "\x40\x01n\x81\xff", "\x40\x81\xff\x01v", "\x41", "\x41\x02v", "\x41\x81\xff", "\x7e", "\x7e\x02v", "\x7e\x81\xff", "\x7f\x00\x01v", "\x40\x01n\x7f\x80\x80\x80\x80\x80\x00", "\x7e\x7f\x80\x80\x80\x80\x80\x00"} {
		d := unpack.New()
		reads(t, d, add(a), a)
		if got, e := d.Read(block); e == api.OK || len(got) != 0 {
			t.Errorf("Read(%q) = %s, %d", block, toldFields(got), e)
		}
		holds(t, d, 4096, a)
	}
}

// A size that is wrong isn't taken.
func TestASizeThatIsWrongIsNotTaken(t *testing.T) {
	a := field("a", "1")
	for block, want := range map[string]api.Errno{
		size(4097): api.ErrResize, size(1 << 31): api.ErrResize, size(1<<32 - 1): api.ErrResize,
		"\x3f\x80\x80\x80\x80\x10": api.ErrInteger, "\x3f": api.ErrShort, "\x3f\x80": api.ErrShort,
		"\x82\x20": api.ErrResize, "\x82\x3f\x00": api.ErrResize,
	} {
		d := unpack.New()
		reads(t, d, size(100)+add(a), a)
		fails(t, d, block, want)
		holds(t, d, 100, a)
		d = unpack.New()
		reads(t, d, size(100)+add(a), a)
		fails(t, d, size(99)+size(50)+block, want)
		holds(t, d, 50, a)
	}
}

func TestTheTableBehindA65thField(t *testing.T) {
	var fields []api.Field
	block := ""
	for i := range 64 {
		f := field("n", fmt.Sprint(i))
		fields = append([]api.Field{f}, fields...)
		block += add(f)
	}
	for _, last := range []string{add(field("x", "y")), "\x82", "\x40", "\x80"} {
		d := unpack.New()
		fails(t, d, block+last, api.ErrList)
		holds(t, d, 4096, fields...)
	}
	d := unpack.New()
	fails(t, d, block+size(0), api.ErrResize)
	holds(t, d, 4096, fields...)
}

// A table that was told is told nothing of what comes, nor does the decoder hear of what becomes of it.
func TestTableIsACopyThatGoesItsOwnWay(t *testing.T) {
	a, b, c := field("a", "1"), field("b", "2"), field("c", "3")
	d := unpack.New()
	reads(t, d, size(200)+add(a)+add(b), a, b)
	first, second := d.Table(), d.Table()
	first.Add("x", "y")
	first.Resize(300)
	tableHolds(t, first, 300, field("x", "y"), b, a)
	tableHolds(t, second, 200, b, a)
	holds(t, d, 200, b, a)

	reads(t, d, add(c), c)
	holds(t, d, 200, c, b, a)
	tableHolds(t, first, 300, field("x", "y"), b, a)
	tableHolds(t, second, 200, b, a)

	reads(t, d, size(0)+size(100))
	holds(t, d, 100)
	tableHolds(t, second, 200, b, a)
	second.Resize(0)
	reads(t, d, add(a)+index(62), a, a)
	tableHolds(t, second, 0)

	// The same of one that is down.
	fails(t, d, add(b)+"\x80", api.ErrIndex)
	third := d.Table()
	third.Add("x", "y")
	third.Resize(0)
	third.Resize(68)
	third.Add("x", "y")
	tableHolds(t, third, 68, field("x", "y"))
	fails(t, d, add(c), api.ErrState)
	fails(t, d, size(0), api.ErrState)
	holds(t, d, 100, b, a)
}

func TestAskingChangesNothing(t *testing.T) {
	a := field("a", strings.Repeat("v", 10))
	d := unpack.New()
	reads(t, d, add(a), a)
	for range 3 {
		holds(t, d, 4096, a)
		reads(t, d, index(62), a)
	}
	fails(t, d, add(a)+"\x80", api.ErrIndex)
	for range 3 {
		holds(t, d, 4096, a, a)
		fails(t, d, "", api.ErrState)
	}
}
