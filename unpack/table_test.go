package unpack_test

import (
	"fmt"
	"strings"
	"testing"
	"unsafe"

	"nuncio/api"
	"nuncio/unpack"
)

// P12.3: the table that the blocks build, and to which they point; and whose memory the answers are.

func TestWhatOneBlockAddsTheNextOnesMayPointTo(t *testing.T) {
	d := unpack.New()
	var there []api.Field
	for i := range 60 {
		f := field(fmt.Sprint("name", i), fmt.Sprint("value", i))
		there = append([]api.Field{f}, there...)
		reads(t, d, add(f), f)
		holds(t, d, 4096, there...)
		for n, g := range there {
			reads(t, d, index(62+n), g)
			reads(t, d, rows[2].named(62+n, "v")+rows[3].named(62+n, ""), never(g.Name, "v"), field(g.Name, ""))
		}
	}
	holds(t, d, 4096, there...)
}

func TestWhatABlockAddsItMayPointToItself(t *testing.T) {
	d := unpack.New()
	reads(t, d, add(field("a", "b"))+index(62)+add(field("c", "d"))+index(62)+index(63)+addedAt(63, "e")+index(62)+index(63)+index(64),
		field("a", "b"), field("a", "b"), field("c", "d"), field("c", "d"), field("a", "b"), field("a", "e"), field("a", "e"), field("c", "d"), field("a", "b"))
	holds(t, d, 4096, field("a", "e"), field("c", "d"), field("a", "b"))
}

func TestOnlyOneRowAdds(t *testing.T) {
	d := unpack.New()
	reads(t, d, index(2)+other("a", "b")+neverAdded("c", "d")+rows[2].named(2, "PUT")+rows[3].named(2, "PUT"),
		entry(2), field("a", "b"), never("c", "d"), never(":method", "PUT"), field(":method", "PUT"))
	holds(t, d, 4096)
	reads(t, d, add(field("e", "f"))+index(62)+rows[2].named(62, "g")+rows[3].named(62, "h"), field("e", "f"), field("e", "f"), never("e", "g"), field("e", "h"))
	holds(t, d, 4096, field("e", "f"))
}

// One that is there already, a fixed one too, is added again.
func TestWhatIsThereIsAddedAgain(t *testing.T) {
	d := unpack.New()
	reads(t, d, addedAt(2, "GET")+add(entry(2))+add(entry(2)), entry(2), entry(2), entry(2))
	holds(t, d, 4096, entry(2), entry(2), entry(2))
}

func TestEntriesGoAsOthersCome(t *testing.T) {
	d := unpack.New()
	var there []api.Field
	for i := range 400 {
		f := sized(fmt.Sprint(i), 40+i*37%1000)
		there = append([]api.Field{f}, there...)
		sum := 0
		for n, g := range there {
			if sum += counted(g); sum > 4096 {
				there = there[:n]
				break
			}
		}
		reads(t, d, add(f), f)
		holds(t, d, 4096, there...)
	}
}

// About the size of the table: an entry that is just as great, and one that is greater, at which all go.
func TestEntriesAboutTheTablesSize(t *testing.T) {
	a, b := field("a", "1"), field("b", "2")
	for _, most := range []int{100, 1000, 4096} {
		for less := range 4 {
			d := unpack.New()
			reads(t, d, size(most)+add(a)+add(b), a, b)
			f := sized("n", most-less)
			reads(t, d, add(f)+index(62), f, f)
			holds(t, d, most, f)
		}
		for more := 1; more < 4; more++ {
			d := unpack.New()
			reads(t, d, size(most)+add(a)+add(b), a, b)
			f := sized("n", most+more)
			reads(t, d, add(f), f)
			holds(t, d, most)
			reads(t, d, add(a)+index(62), a, a)
			fails(t, d, add(f)+index(62), api.ErrIndex)
			holds(t, d, most)
		}
	}
	for most := range 32 {
		d := unpack.New()
		reads(t, d, size(most)+added("", "")+add(a), field("", ""), a)
		holds(t, d, most)
	}
}

// The entry whose name is taken may go for the one that takes it.
func TestANameOfAnEntryThatGoes(t *testing.T) {
	d := unpack.New()
	a := sized("name", 100)
	reads(t, d, size(100)+add(a), a)
	b := sized("name", 90)
	reads(t, d, addedAt(62, b.Value), b)
	holds(t, d, 100, b)
	great := strings.Repeat("v", 100)
	reads(t, d, addedAt(62, great), field("name", great))
	holds(t, d, 100)
}

func TestSizesInTheTable(t *testing.T) {
	a, b, c := field("a", "1"), field("b", "2"), field("c", "3")
	for n := range 120 {
		want := []api.Field{c, b, a}[:min(n/34, 3)]
		d := unpack.New()
		reads(t, d, add(a)+add(b)+add(c), a, b, c)
		reads(t, d, size(n))
		holds(t, d, n, want...)
		// What went doesn't come back.
		reads(t, d, size(4096))
		holds(t, d, 4096, want...)
		// The same in one block, ahead of a field.
		d = unpack.New()
		reads(t, d, add(a)+add(b)+add(c), a, b, c)
		reads(t, d, size(n)+size(4096)+index(2), entry(2))
		holds(t, d, 4096, want...)
	}
}

// With a table of 4096 again behind one of less.
func TestATableThatGrows(t *testing.T) {
	d := unpack.New()
	reads(t, d, size(34))
	var there []api.Field
	for i := range 5 {
		f := field("n", fmt.Sprint(i))
		reads(t, d, size(34*(i+1))+add(f), f)
		there = append([]api.Field{f}, there...)
		holds(t, d, 34*(i+1), there...)
	}
	f := field("n", "5")
	reads(t, d, add(f), f)
	holds(t, d, 170, append([]api.Field{f}, there[:4]...)...)
}

// span is where a text or a list of fields has its memory.
func span(at unsafe.Pointer, size int) [2]uintptr {
	return [2]uintptr{uintptr(at), uintptr(at) + uintptr(size)}
}

// textSpan is that of a text.
func textSpan(s string) [2]uintptr { return span(unsafe.Pointer(unsafe.StringData(s)), len(s)) }

// meet: have some two spans memory in common? (Those without a byte have none.)
func meet(spans ...[2]uintptr) bool {
	for i, a := range spans {
		for _, b := range spans[:i] {
			if a[0] < a[1] && b[0] < b[1] && a[0] < b[1] && b[0] < a[1] {
				return true
			}
		}
	}
	return false
}

func TestAnswersAreNewMemory(t *testing.T) {
	d := unpack.New()
	var spans [][2]uintptr
	block := size(4000) + add(field("name", "value")) + index(62) + index(62) + index(2) + index(2) + addedAt(62, "other") + "\x40" + coded("coded name") + coded("coded value") +
		neverAdded("secret", "thing") + other("plain", "thing") + rows[2].named(62, "v") + rows[3].named(4, "/path") + rows[3].named(4, "/path")
	spans = append(spans, textSpan(block))
	first, e := d.Read(block)
	if e != api.OK {
		t.Fatal(e)
	}
	second, e := d.Read(block)
	if e != api.OK {
		t.Fatal(e)
	}
	for _, list := range [][]api.Field{first, second, entries(d.Table()), entries(d.Table())} {
		spans = append(spans, span(unsafe.Pointer(unsafe.SliceData(list)), cap(list)*int(unsafe.Sizeof(api.Field{}))))
		for _, f := range list {
			spans = append(spans, textSpan(f.Name), textSpan(f.Value))
		}
	}
	if meet(spans...) {
		t.Error("answers share memory")
	}
	if !meet(spans[0], spans[0]) {
		t.Error("no span meets another")
	}
}

// What is handed in may be changed by who can do so; what was read of it stays.
func TestBlocksAreNotKept(t *testing.T) {
	b := []byte(add(field("name", "value")) + other("plain", "thing") + "\x10" + coded("coded") + coded("texts"))
	block := string(b)
	d := unpack.New()
	got, e := d.Read(unsafe.String(&b[0], len(b)))
	if string(b) != block {
		t.Error("the block was changed")
	}
	clear(b)
	want := []api.Field{field("name", "value"), field("plain", "thing"), never("coded", "texts")}
	if e != api.OK || toldFields(got) != toldFields(want) {
		t.Errorf("got %s, %d", toldFields(got), e)
	}
	holds(t, d, 4096, want[0])
	reads(t, d, index(62), want[0])
}

// Fields that were told may be changed by who has them.
func TestFieldsThatWereToldAreNotKept(t *testing.T) {
	d := unpack.New()
	f := field("name", "value")
	got, _ := d.Read(add(f) + index(62) + index(62))
	got[0], got[1].Value = field("x", "y"), "z"
	if got[2] != f {
		t.Errorf("got %s", toldFields(got))
	}
	reads(t, d, index(62), f)
	holds(t, d, 4096, f)
}
