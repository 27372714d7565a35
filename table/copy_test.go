package table_test

import (
	"math"
	"testing"
	"unsafe"

	"nuncio/table"
)

// P11.3: Copy; and that nothing shares memory with what was handed in.

func TestCopyIsLikeIt(t *testing.T) {
	for _, most := range []int{math.MinInt, -1, 0, 31, 4096, math.MaxInt} {
		holds(t, table.New(most).Copy(), max(most, 0))
	}
	there := []field{sized("d", 70), sized("c", 60), {"", ""}, sized("a", 40)}
	x := of(there...)
	holds(t, x.Copy(), 202, there...)
	holds(t, x.Copy().Copy().Copy(), 202, there...)
	x.Resize(1000)
	holds(t, x.Copy(), 1000, there...)
	x.Resize(165)
	holds(t, x.Copy(), 165, there[:3]...)
	add(x, sized("e", 90))
	holds(t, x.Copy(), 165, sized("e", 90), there[0])
	x.Resize(0)
	holds(t, x.Copy(), 0)
	finds(t, of(there...).Copy(), "c", there[1][1], 63, true)
	finds(t, of(there...).Copy(), "x", "", 0, false)
	finds(t, of(there...).Copy(), ":path", "", 4, false)
}

// step is something that a table is told.
type step struct {
	name string
	do   func(x *table.Table)
	// most and there: what a table of 136 with c, b and a is then.
	most  int
	there []field
}

var abc = []field{{"c", "3"}, {"b", "2"}, {"a", "1"}}

// steps are some of each kind.
func steps() []step {
	return []step{
		{"Add", func(x *table.Table) { x.Add("d", "4") }, 136, []field{{"d", "4"}, abc[0], abc[1], abc[2]}},
		{"Add twice", func(x *table.Table) { x.Add("d", "4"); x.Add("e", "5") }, 136, []field{{"e", "5"}, {"d", "4"}, abc[0], abc[1]}},
		{"Add, one goes", func(x *table.Table) { x.Add("dd", "4") }, 136, []field{{"dd", "4"}, abc[0], abc[1]}},
		{"Add, all go", func(x *table.Table) { add(x, sized("d", 136)) }, 136, []field{sized("d", 136)}},
		{"Add, no room", func(x *table.Table) { add(x, sized("d", 137)) }, 136, nil},
		{"Resize to more", func(x *table.Table) { x.Resize(4096) }, 4096, abc},
		{"Resize to just that", func(x *table.Table) { x.Resize(102) }, 102, abc},
		{"Resize to less", func(x *table.Table) { x.Resize(101) }, 101, abc[:2]},
		{"Resize to nothing", func(x *table.Table) { x.Resize(0) }, 0, nil},
		{"Resize there and back", func(x *table.Table) { x.Resize(-1); x.Resize(136) }, 136, nil},
		{"Resize and Add", func(x *table.Table) { x.Resize(68); x.Add("d", "4") }, 68, []field{{"d", "4"}, abc[0]}},
		{"nothing", func(x *table.Table) {}, 136, abc},
	}
}

func TestCopyAndTableGoTheirOwnWays(t *testing.T) {
	for _, one := range steps() {
		for _, other := range steps() {
			t.Run(one.name+"/"+other.name, func(t *testing.T) {
				x := of(abc...)
				x.Resize(136)
				c := x.Copy()
				one.do(x)
				holds(t, c, 136, abc...)
				other.do(c)
				holds(t, x, one.most, one.there...)
				holds(t, c, other.most, other.there...)
			})
			t.Run("copy first/"+one.name+"/"+other.name, func(t *testing.T) {
				x := of(abc...)
				x.Resize(136)
				c := x.Copy()
				one.do(c)
				holds(t, x, 136, abc...)
				other.do(x)
				holds(t, c, one.most, one.there...)
				holds(t, x, other.most, other.there...)
			})
		}
	}
}

// Whatever spare room there is behind the entries, it is one table's.
func TestCopyAndTableAddInTurn(t *testing.T) {
	for there := range 40 {
		x := table.New(4096)
		for i := range there {
			add(x, numbered(i))
		}
		c := x.Copy()
		d := c.Copy()
		for i := range 20 {
			x.Add("x", numbered(i)[0])
			c.Add("c", numbered(i)[0])
			d.Add("d", numbered(i)[0])
		}
		for i := range 20 {
			at(t, x, 81-i, field{"x", numbered(i)[0]})
			at(t, c, 81-i, field{"c", numbered(i)[0]})
			at(t, d, 81-i, field{"d", numbered(i)[0]})
		}
		for i := range there {
			for _, y := range []*table.Table{x, c, d} {
				at(t, y, 81+there-i, numbered(i))
			}
		}
	}
}

func TestTwoTablesGoTheirOwnWays(t *testing.T) {
	x, y := table.New(100), table.New(100)
	x.Add("a", "b")
	holds(t, y, 100)
	y.Add("c", "d")
	holds(t, x, 100, field{"a", "b"})
	x.Resize(0)
	holds(t, y, 100, field{"c", "d"})
}

// What is handed in may be changed by who can do so; the entry stays.
func TestWhatIsAddedIsNotKept(t *testing.T) {
	b := []byte("namevalue")
	all := unsafe.String(&b[0], len(b))
	x := table.New(100)
	x.Add(all[:4], all[4:])
	copy(b, "xxxxxxxxx")
	holds(t, x, 100, field{"name", "value"})
	finds(t, x, "name", "value", 62, true)
}

func TestAnswersAreNewMemory(t *testing.T) {
	name, value := "x-name", "some value"
	x := table.New(100)
	x.Add(name, value)
	c := x.Copy()
	for _, n := range []int{1, 2, 16, 61, 62} {
		var all []string
		for range 2 {
			for _, y := range []*table.Table{x, c} {
				k, v, _ := y.At(n)
				all = append(all, k, v)
			}
		}
		all = append(all, name, value)
		for i := range all {
			for j := range i {
				if !apart(all[i], all[j]) {
					t.Errorf("At(%d): %q and %q share memory", n, all[i], all[j])
				}
			}
		}
	}
}
