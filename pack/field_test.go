package pack_test

import (
	"fmt"
	"strings"
	"testing"

	"nuncio/api"
	"nuncio/pack"
	"nuncio/unpack"
)

// P13.1: how a field is laid, by what the table has.

func TestNoFields(t *testing.T) {
	c := pack.New()
	writes(t, c, "")
	writes(t, c, "", []api.Field{}...)
	holds(t, c, 4096)
	writes(t, c, "\x82", entry(2))
	writes(t, c, "")
	writes(t, c, added(0, plain("x")+plain("y")), field("x", "y"))
	writes(t, c, "")
	holds(t, c, 4096, field("x", "y"))
}

// Each fixed entry is there whole, as Never, too, also where the table has no room, and isn't added.
func TestFieldsThatAreFixed(t *testing.T) {
	c, none := pack.New(), limited(0)
	for n := 1; n <= 61; n++ {
		writes(t, c, string([]byte{byte(128 + n)}), entry(n))
		writes(t, none, string([]byte{byte(128 + n)}), entry(n))
		value := entry(n).Value
		writes(t, c, neverLaid(n, text(value)), never(entry(n).Name, value))
		writes(t, none, neverLaid(n, text(value)), never(entry(n).Name, value))
	}
	holds(t, c, 4096)
	holds(t, none, 0)
}

// least is the number of the first fixed entry of a name.
func least(name string) int {
	for n := 1; ; n++ {
		if entry(n).Name == name {
			return n
		}
	}
}

// A name that a fixed entry has, with a value that none has with it: by the first one of that name, in each row that has a name.
func TestNamesThatAreFixed(t *testing.T) {
	for n := 1; n <= 61; n++ {
		name := entry(n).Name
		at := least(name)
		c := pack.New()
		writes(t, c, neverLaid(at, plain("\x00")), never(name, "\x00"))
		holds(t, c, 4096)
		writes(t, c, added(at, plain("\x00")), field(name, "\x00"))
		holds(t, c, 4096, field(name, "\x00"))
		c = limited(0)
		writes(t, c, other(at, plain("\x00")), field(name, "\x00"))
		writes(t, c, neverLaid(at, plain("\x00")), never(name, "\x00"))
		holds(t, c, 0)
	}
}

func TestNamesThatNoneHas(t *testing.T) {
	for _, name := range []string{"x", "", "\x00", ":Method", ":metho", ":methods", "method", "GET", "viaa", "vi", "a=b", "a\nb", ":path=/", ":scheme\n"} {
		texts := text(name) + plain("v")
		c := pack.New()
		writes(t, c, neverLaid(0, texts), never(name, "v"))
		holds(t, c, 4096)
		writes(t, c, added(0, texts), field(name, "v"))
		holds(t, c, 4096, field(name, "v"))
		c = limited(0)
		writes(t, c, other(0, texts), field(name, "v"))
		writes(t, c, neverLaid(0, texts), never(name, "v"))
		holds(t, c, 0)
	}
}

// A field that was added is there whole from then on, and its name as well; a fixed entry's name stands in front of it.
func TestFieldsThatWereAdded(t *testing.T) {
	c := pack.New()
	a, b, m := field("x", "1"), field("x", "2"), field(":method", "PUT")
	writes(t, c, added(0, plain("x")+plain("1")), a)
	writes(t, c, index(62), a)
	writes(t, c, added(62, plain("2")), b)
	holds(t, c, 4096, b, a)
	writes(t, c, index(63)+index(62)+index(63), a, b, a)
	writes(t, c, added(2, plain("PUT")), m)
	holds(t, c, 4096, m, b, a)
	writes(t, c, index(62)+index(64)+index(63), m, a, b)
	writes(t, c, added(2, plain("\x00")), field(":method", "\x00"))
	// By the youngest one of the name.
	writes(t, c, neverLaid(64, plain("3")), never("x", "3"))
	writes(t, c, added(64, plain("3")), field("x", "3"))
	writes(t, c, added(62, plain("4")), field("x", "4"))
	holds(t, c, 4096, field("x", "4"), field("x", "3"), field(":method", "\x00"), m, b, a)
}

// All of that within one block.
func TestFieldsThatTheSameBlockAdds(t *testing.T) {
	c := pack.New()
	a, b, m := field("x", "1"), field("x", "2"), field(":method", "PUT")
	writes(t, c, added(0, plain("x")+plain("1"))+index(62)+added(62, plain("2"))+index(63)+index(62)+added(2, plain("PUT"))+index(62)+index(64)+index(63)+neverLaid(63, plain("3"))+neverLaid(0, plain("y")+plain("4"))+added(0, plain("y")+plain("4")),
		a, a, b, a, b, m, m, a, b, never("x", "3"), never("y", "4"), field("y", "4"))
	holds(t, c, 4096, field("y", "4"), m, b, a)
}

// Letters, and where a name ends and its value begins, make fields others.
func TestFieldsThatAreAlmostThere(t *testing.T) {
	c := pack.New()
	writes(t, c, added(0, plain("ab")+plain("cd")), field("ab", "cd"))
	for _, f := range []api.Field{field("a", "bcd"), field("abc", "d"), field("abcd", ""), field("", "abcd"), field("Ab", "cd")} {
		writes(t, c, neverLaid(0, text(f.Name)+text(f.Value)), never(f.Name, f.Value))
		writes(t, c, added(0, text(f.Name)+text(f.Value)), f)
	}
	writes(t, c, index(67), field("ab", "cd"))
	writes(t, c, added(67, plain("Cd")), field("ab", "Cd"))
}

// Never: with what is there whole, fixed and added; with names alone; with what none has; with what is too great. The table stays as it is.
func TestNever(t *testing.T) {
	a := field("x", "1")
	c := pack.New()
	writes(t, c, added(0, plain("x")+plain("1")), a)
	great := bare(5000)
	for range 2 {
		writes(t, c, "\x12"+text("GET"), never(":method", "GET"))
		writes(t, c, "\x1f\x2f\x011", never("x", "1"))
		writes(t, c, "\x12"+plain("PUT"), never(":method", "PUT"))
		writes(t, c, "\x1f\x2f\x012", never("x", "2"))
		writes(t, c, "\x10\x01y\x013", never("y", "3"))
		writes(t, c, "\x1f\x2e\x013", never("www-authenticate", "3"))
		writes(t, c, "\x10\x01y"+plain(great), never("y", great))
		writes(t, c, "\x1f\x2f"+plain(great), never("x", great))
		writes(t, c, "\x12"+plain(great), never(":method", great))
		holds(t, c, 4096, a)
	}
	// The number is that of the whole one, not of the least one of the name.
	writes(t, c, "\x13"+text("POST"), never(":method", "POST"))
	writes(t, c, "\x1e"+text("500"), never(":status", "500"))
	writes(t, c, added(8, plain("307")), field(":status", "307"))
	writes(t, c, "\x1f\x2f"+plain("307"), never(":status", "307"))
	writes(t, c, "\x18"+plain("308"), never(":status", "308"))
	holds(t, c, 4096, field(":status", "307"), a)
}

// What was laid as Never isn't there afterwards.
func TestNeverIsNotAdded(t *testing.T) {
	c := pack.New()
	secret := neverLaid(0, plain("x")+plain("1"))
	writes(t, c, secret+secret, never("x", "1"), never("x", "1"))
	writes(t, c, secret+added(0, plain("x")+plain("1"))+neverLaid(62, plain("1"))+index(62), never("x", "1"), field("x", "1"), never("x", "1"), field("x", "1"))
	holds(t, c, 4096, field("x", "1"))
}

// Whatever room the table has, it plays no part.
func TestNeverInTablesOfSeveralSizes(t *testing.T) {
	for _, most := range []int{0, 33, 34, 100, 4096} {
		for _, f := range []api.Field{field("x", "y"), field(":method", "y"), field("x", bare(100)), field("", ""), field("custom-key", "custom-value")} {
			c := limited(most)
			row := integer(16, 4, 0) + text(f.Name) + text(f.Value)
			if f.Name == ":method" {
				row = integer(16, 4, 2) + text(f.Value)
			}
			writes(t, c, row, never(f.Name, f.Value))
			holds(t, c, most)
		}
	}
}

// About the table's size: a field that is just as great is added, and all others go; one that is greater isn't, and they stay.
func TestFieldsAboutTheTablesSize(t *testing.T) {
	a, b := field("a", "1"), field("b", "2")
	for _, most := range []int{68, 100, 1000, 4095, 4096} {
		for less := range 4 {
			c, d := limited(most), unpack.New()
			d.Read(size(most))
			follows(t, d, c, c.Write(a, b), a, b)
			holds(t, c, most, b, a)
			f := sized("n", most-less)
			block := added(0, plain("n")+plain(f.Value)) + index(62)
			writes(t, c, block, f, f)
			holds(t, c, most, f)
			follows(t, d, c, block, f, f)
		}
		for more := 1; more < 4; more++ {
			c, d := limited(most), unpack.New()
			d.Read(size(most))
			follows(t, d, c, c.Write(a, b), a, b)
			f := sized("n", most+more)
			laid := other(0, plain("n")+plain(f.Value))
			writes(t, c, laid+laid, f, f)
			holds(t, c, most, b, a)
			follows(t, d, c, laid+laid, f, f)
			// The same with names that are there.
			f = sized("a", most+more)
			writes(t, c, other(63, plain(f.Value)), f)
			f = sized("via", most+more)
			writes(t, c, other(60, plain(f.Value)), f)
			holds(t, c, most, b, a)
		}
	}
}

// Each size about a small field's: what counts is its name, its value and 32.
func TestAFieldInTablesOfEachSize(t *testing.T) {
	for _, f := range []api.Field{field("", ""), field("", "xyz"), field("xyz", ""), field("x", "yz"), field("via", "\x00\x01"), field("custom-key", "custom-value")} {
		texts, at := text(f.Name)+text(f.Value), 0
		if f.Name == "via" {
			texts, at = text(f.Value), 60
		}
		for most := range 80 {
			c := limited(most)
			if most < counted(f) {
				writes(t, c, other(at, texts), f)
				holds(t, c, most)
			} else {
				writes(t, c, added(at, texts), f)
				holds(t, c, most, f)
			}
		}
	}
}

// With no room at all nothing is ever added: each block is the same again.
func TestATableOfNoSize(t *testing.T) {
	c, d := limited(0), unpack.New()
	d.Read(size(0))
	fields := []api.Field{field("x", "y"), entry(2), field(":method", "PUT"), never("x", "y"), never(":method", "GET"), field("", ""), field("x", "y")}
	want := other(0, plain("x")+plain("y")) + index(2) + other(2, plain("PUT")) + neverLaid(0, plain("x")+plain("y")) + neverLaid(2, text("GET")) + other(0, plain("")+plain("")) + other(0, plain("x")+plain("y"))
	for range 3 {
		writes(t, c, want, fields...)
		holds(t, c, 0)
		follows(t, d, c, want, fields...)
	}
}

// The entry whose name is taken may go for the one that takes it.
func TestANameOfAnEntryThatGoes(t *testing.T) {
	c, d := limited(100), unpack.New()
	d.Read(size(100))
	a, b := sized("name", 100), sized("name", 90)
	follows(t, d, c, c.Write(a), a)
	writes(t, c, added(62, plain(b.Value)), b)
	holds(t, c, 100, b)
	follows(t, d, c, added(62, plain(b.Value)), b)
	great := sized("name", 101)
	writes(t, c, other(62, plain(great.Value)), great)
	holds(t, c, 100, b)
	follows(t, d, c, other(62, plain(great.Value)), great)
}

// Entries that went are none any more.
func TestEntriesThatWent(t *testing.T) {
	c := limited(68)
	x, y, z := field("x", "1"), field("y", "2"), field("z", "3")
	laid := func(f api.Field) string { return added(0, plain(f.Name)+plain(f.Value)) }
	writes(t, c, laid(x)+laid(y)+index(63)+laid(z)+index(63)+laid(x)+index(63)+neverLaid(0, plain("y")+plain("2")), x, y, x, z, y, x, z, never("y", "2"))
	holds(t, c, 68, x, z)
}

// Numbers of entries that need more bytes than one, in each row: 124 entries, so up to 185.
func TestIndexesOfEachLength(t *testing.T) {
	c, d := pack.New(), unpack.New()
	var there []api.Field
	for i := range 124 {
		f := field(string([]byte{byte(128 + i)}), "")
		there = append([]api.Field{f}, there...)
		block := c.Write(f)
		if block != "\x40"+plain(f.Name)+"\x00" {
			t.Errorf("%q", block)
		}
		follows(t, d, c, block, f)
	}
	holds(t, c, 4096, there...)
	for i, f := range there {
		n, great := 62+i, bare(4096)
		writes(t, c, index(n), f)
		writes(t, c, neverLaid(n, "\x00"), never(f.Name, ""))
		writes(t, c, neverLaid(n, plain("v")), never(f.Name, "v"))
		block := other(n, plain(great))
		writes(t, c, block, field(f.Name, great))
		follows(t, d, c, block, field(f.Name, great))
	}
	holds(t, c, 4096, there...)
}

// The same in the row that adds. The oldest one goes for what is added, also where it is the one whose name is taken.
func TestIndexesOfEachLengthThatAreAdded(t *testing.T) {
	var there []api.Field
	for i := range 124 {
		there = append(there, field(string([]byte{byte(128 + i)}), ""))
	}
	for i, f := range there {
		c, d := pack.New(), unpack.New()
		for _, g := range there {
			follows(t, d, c, c.Write(g), g)
		}
		f.Value = "v"
		block := added(185-i, plain("v")) + index(62) + index(185)
		writes(t, c, block, f, f, there[1])
		follows(t, d, c, block, f, f, there[1])
	}
}

// Write sets no bound to how many fields there are, nor to how long a block is.
func TestManyFields(t *testing.T) {
	c := pack.New()
	var fields []api.Field
	var want strings.Builder
	for range 500 {
		fields = append(fields, entry(2), field("x", bare(5000)), never("y", "z"))
		want.WriteString("\x82" + other(0, plain("x")+plain(bare(5000))) + neverLaid(0, plain("y")+plain("z")))
	}
	writes(t, c, want.String(), fields...)
	holds(t, c, 4096)
}

// Fields of a head of 64, the most that are read.
func TestAHeadOf64Fields(t *testing.T) {
	c, d := pack.New(), unpack.New()
	for range 3 {
		var fields []api.Field
		for i := range 64 {
			fields = append(fields, api.Field{Name: fmt.Sprint("name", i%20), Value: fmt.Sprint("value", i%30), Never: i%7 == 0})
		}
		follows(t, d, c, c.Write(fields...), fields...)
	}
}
