package table_test

import (
	"fmt"
	"math"
	"runtime"
	"slices"
	"strings"
	"testing"

	"nuncio/table"
)

// P11.1: New, Most, Size, Len, Add and Resize.

func TestNew(t *testing.T) {
	for _, most := range []int{0, 1, 31, 32, 33, 100, 4096, 65536, math.MaxInt32, math.MaxInt - 1, math.MaxInt} {
		holds(t, table.New(most), most)
	}
	for _, most := range []int{-1, -2, -32, -4096, math.MinInt32, math.MinInt + 1, math.MinInt} {
		holds(t, table.New(most), 0)
	}
}

func TestExample(t *testing.T) {
	x := table.New(100)
	x.Add("a", "b")
	x.Add("c", "d")
	holds(t, x, 100, field{"c", "d"}, field{"a", "b"})
	x.Add("e", strings.Repeat("v", 59))
	holds(t, x, 100, sized("e", 92))
}

func TestAddIntoATableWithoutRoom(t *testing.T) {
	for _, most := range []int{math.MinInt, -100, -32, -1, 0, 1, 16, 31} {
		x := table.New(most)
		for _, f := range []field{{"", ""}, {"a", "b"}, sized("a", 4096)} {
			add(x, f)
			holds(t, x, max(most, 0))
		}
	}
}

func TestAddAboutAnEntrysSize(t *testing.T) {
	for _, size := range []int{32, 33, 34, 35, 63, 64, 65, 127, 128, 129, 4095, 4096, 4097} {
		for _, f := range []field{{strings.Repeat("n", size-32), ""}, {"", strings.Repeat("v", size-32)}, {strings.Repeat("n", (size-32)/2), strings.Repeat("v", (size-31)/2)}} {
			for more := range 3 {
				x := table.New(size + more)
				add(x, f)
				holds(t, x, size+more, f)
				add(x, f)
				holds(t, x, size+more, f)
			}
			for less := 1; less < 4; less++ {
				x := table.New(size - less)
				add(x, f)
				holds(t, x, size-less)
			}
		}
	}
}

func TestAddNamesAndValuesThatAreEmpty(t *testing.T) {
	x := table.New(32 + 33 + 35 + 32)
	x.Add("", "")
	holds(t, x, 132, field{"", ""})
	x.Add("n", "")
	holds(t, x, 132, field{"n", ""}, field{"", ""})
	x.Add("", "val")
	holds(t, x, 132, field{"", "val"}, field{"n", ""}, field{"", ""})
	x.Add("", "")
	holds(t, x, 132, field{"", ""}, field{"", "val"}, field{"n", ""}, field{"", ""})
	x.Add("", "")
	holds(t, x, 132, field{"", ""}, field{"", ""}, field{"", "val"}, field{"n", ""})
	x.Add("", "")
	holds(t, x, 132, field{"", ""}, field{"", ""}, field{"", ""}, field{"", "val"})
}

func TestAddOneThatIsGreaterThanTheTable(t *testing.T) {
	for _, there := range [][]field{nil, {{"a", "b"}}, {{"", ""}}, {{"c", "d"}, {"a", "b"}}, {numbered(1), numbered(2), numbered(3), numbered(4)}} {
		most := max(sum(there), 40)
		for more := 1; more < 100; more += 7 {
			x := of(there...)
			x.Resize(most)
			add(x, sized("n", most+more))
			holds(t, x, most)
			// An empty table is as good as a new one.
			add(x, field{"e", "f"})
			holds(t, x, most, field{"e", "f"})
		}
	}
}

func TestAddThatOneSeveralAndAllGoFor(t *testing.T) {
	// Oldest to youngest 40, 50, 60 and 70, in a table of 220.
	there := []field{sized("d", 70), sized("c", 60), sized("b", 50), sized("a", 40)}
	for _, step := range []struct{ size, stay int }{
		{33, 3}, {40, 3}, {41, 2}, {90, 2}, {91, 1}, {150, 1}, {151, 0}, {219, 0}, {220, 0},
	} {
		x := of(there...)
		f := sized("n", step.size)
		add(x, f)
		holds(t, x, 220, slices.Concat([]field{f}, there[:step.stay])...)
	}
	x := of(there...)
	add(x, sized("n", 221))
	holds(t, x, 220)
}

// With more or less room than for just what is there.
func TestAddOfEachSizeIntoTablesOfEachSize(t *testing.T) {
	there := []field{sized("d", 32+2), sized("c", 32+8), sized("b", 32+5), sized("a", 32+1)}
	for most := sum(there); most < sum(there)+120; most++ {
		for size := 33; size < most+3; size++ {
			x := of(there...)
			x.Resize(most)
			f := sized("n", size)
			want := []field{f}
			if size > most {
				want = nil
			}
			for i := 0; size <= most && i < len(there) && sum(want)+there[i].size() <= most; i++ {
				want = append(want, there[i])
			}
			add(x, f)
			holds(t, x, most, want...)
		}
	}
}

func TestAddWhereThereIsJustRoom(t *testing.T) {
	x := table.New(140)
	add(x, sized("a", 50))
	add(x, sized("b", 50))
	holds(t, x, 140, sized("b", 50), sized("a", 50))
	add(x, sized("c", 40))
	holds(t, x, 140, sized("c", 40), sized("b", 50), sized("a", 50))
	x = of(sized("b", 50), sized("a", 50))
	x.Resize(139)
	add(x, sized("c", 40))
	holds(t, x, 139, sized("c", 40), sized("b", 50))
}

// Young ones don't go for an old one, however great or small they are.
func TestTheOldestGoFirst(t *testing.T) {
	x := of(sized("great", 1000), sized("small", 40), sized("great", 900), sized("small", 40))
	add(x, field{"", ""})
	holds(t, x, 1980, field{"", ""}, sized("great", 1000), sized("small", 40), sized("great", 900))
	add(x, field{"", ""})
	holds(t, x, 1980, field{"", ""}, field{"", ""}, sized("great", 1000), sized("small", 40))
}

func TestAddOneThatIsThere(t *testing.T) {
	x := table.New(4 * 34)
	for range 2 {
		x.Add("a", "b")
		x.Add("c", "d")
	}
	holds(t, x, 136, field{"c", "d"}, field{"a", "b"}, field{"c", "d"}, field{"a", "b"})
	x.Add("a", "b")
	holds(t, x, 136, field{"a", "b"}, field{"c", "d"}, field{"a", "b"}, field{"c", "d"})
	// A fixed one, too, is an entry of its own.
	x.Add(":method", "GET")
	holds(t, x, 136, field{":method", "GET"}, field{"a", "b"}, field{"c", "d"})
	x.Add("cookie", "")
	holds(t, x, 136, field{"cookie", ""}, field{":method", "GET"}, field{"a", "b"})
}

func TestAddAnyBytes(t *testing.T) {
	x := table.New(4096)
	var want []field
	for c := range 256 {
		f := field{string([]byte{byte(c)}), string([]byte{byte(255 - c), '=', '\n', 0, byte(c)})}
		add(x, f)
		want = slices.Insert(want, 0, f)
		if n := 4096 / f.size(); len(want) > n {
			want = want[:n]
		}
		holds(t, x, 4096, want...)
	}
}

// A sign of several bytes counts as these, in the name and in the value.
func TestSizesAreOfBytes(t *testing.T) {
	for _, f := range []field{{"é", "é"}, {"n", "é€😀"}, {"é€😀", "v"}, {"\xc3", "\xe2\x82"}, {"\x00\x00", "\xff\xff\xff"}} {
		size := len(f[0]) + len(f[1]) + 32
		x := table.New(size)
		add(x, f)
		holds(t, x, size, f)
		x.Resize(size - 1)
		holds(t, x, size-1)
		add(x, f)
		holds(t, x, size-1)
	}
	x := table.New(100)
	x.Add("é", "€😀")
	if x.Size() != 2+3+4+32 {
		t.Errorf("Size = %d, want 41", x.Size())
	}
}

func TestAddManyOnes(t *testing.T) {
	x := table.New(4096)
	var want []field
	for i := range 3000 {
		want = slices.Insert(want, 0, numbered(i))
		for sum(want) > 4096 {
			want = want[:len(want)-1]
		}
		add(x, numbered(i))
		holds(t, x, 4096, want...)
	}
}

func TestTablesOfTheGreatestSize(t *testing.T) {
	x := table.New(math.MaxInt)
	y := table.New(0)
	y.Resize(math.MaxInt)
	var want []field
	for i := range 300 {
		add(x, numbered(i))
		add(y, numbered(i))
		want = slices.Insert(want, 0, numbered(i))
	}
	holds(t, x, math.MaxInt, want...)
	holds(t, y, math.MaxInt, want...)
	add(x, sized("great", 1<<20))
	holds(t, x, math.MaxInt, slices.Insert(slices.Clone(want), 0, sized("great", 1<<20))...)
	y.Resize(math.MinInt)
	holds(t, y, 0)
}

func TestResizeToLess(t *testing.T) {
	there := []field{sized("d", 70), sized("c", 60), sized("b", 50), sized("a", 40)}
	for _, step := range []struct{ most, stay int }{
		{219, 3}, {181, 3}, {180, 3}, {179, 2}, {131, 2}, {130, 2}, {129, 1}, {71, 1}, {70, 1}, {69, 0}, {32, 0}, {1, 0}, {0, 0},
	} {
		x := of(there...)
		x.Resize(step.most)
		holds(t, x, step.most, there[:step.stay]...)
		// What went stays away.
		x.Resize(220)
		holds(t, x, 220, there[:step.stay]...)
	}
}

func TestResizeThatNothingGoesAt(t *testing.T) {
	there := []field{sized("d", 70), sized("c", 60), sized("b", 50), sized("a", 40)}
	x := of(there...)
	for _, most := range []int{220, 221, 300, 4096, math.MaxInt, 1000, 220, 220} {
		x.Resize(most)
		holds(t, x, most, there...)
	}
	// The last one is just what is there.
	x.Resize(219)
	holds(t, x, 219, there[:3]...)
	x.Resize(180)
	holds(t, x, 180, there[:3]...)
}

func TestResizeToMore(t *testing.T) {
	x := of(field{"c", "d"}, field{"a", "b"})
	x.Resize(68 + 34)
	x.Add("e", "f")
	holds(t, x, 102, field{"e", "f"}, field{"c", "d"}, field{"a", "b"})
	x.Add("g", "h")
	holds(t, x, 102, field{"g", "h"}, field{"e", "f"}, field{"c", "d"})
	x.Resize(4096)
	for i := range 30 {
		add(x, numbered(i))
	}
	if x.Len() != 33 {
		t.Errorf("Len = %d, want 33", x.Len())
	}
	at(t, x, 62+32, field{"c", "d"})
}

func TestResizeToNothing(t *testing.T) {
	for _, most := range []int{0, -1, -31, -32, -68, math.MinInt32, math.MinInt + 1, math.MinInt} {
		for _, there := range [][]field{nil, {{"a", "b"}}, {{"", ""}}, {{"c", "d"}, {"a", "b"}}} {
			x := of(there...)
			x.Resize(most)
			holds(t, x, 0)
			x.Add("", "")
			holds(t, x, 0)
			x.Resize(68)
			holds(t, x, 68)
			x.Add("e", "f")
			holds(t, x, 68, field{"e", "f"})
		}
	}
}

func TestResizeByteByByte(t *testing.T) {
	want := []field{{"", ""}, sized("d", 45), {"", ""}, sized("b", 33), sized("a", 60), {"", ""}}
	x := of(want...)
	for most := sum(want) + 3; most >= -3; most-- {
		x.Resize(most)
		for sum(want) > max(most, 0) {
			want = want[:len(want)-1]
		}
		holds(t, x, max(most, 0), want...)
	}
}

func TestResizeThenAdd(t *testing.T) {
	for most := range 250 {
		x := of(sized("d", 70), sized("c", 60), sized("b", 50), sized("a", 40))
		x.Resize(most)
		want := []field{sized("n", 55), sized("d", 70), sized("c", 60), sized("b", 50), sized("a", 40)}
		// Ahead of the new one some may have gone already: those that stay are the same, since less room was left for them with it.
		for len(want) > 0 && sum(want) > most {
			want = want[:len(want)-1]
		}
		add(x, sized("n", 55))
		holds(t, x, most, want...)
	}
}

// heap is how many bytes something holds.
func heap() uint64 {
	// What stands in pools goes at the second time.
	runtime.GC()
	runtime.GC()
	var m runtime.MemStats
	runtime.ReadMemStats(&m)
	return m.HeapAlloc
}

// What is gone, or had no room, takes no memory any more. (Others of the program's may take or give back some all the while, so the bounds are wide.)
func TestNothingIsKeptOfWhatIsGone(t *testing.T) {
	const great, many = 1 << 20, 64
	held := func(fill func(x *table.Table)) uint64 {
		x := table.New(many * (great + 64))
		before := heap()
		fill(x)
		after := heap()
		runtime.KeepAlive(x)
		return max(after, before) - before
	}
	addMany := func(x *table.Table) {
		for i := range many {
			x.Add(fmt.Sprint(i), strings.Repeat("v", great))
		}
	}
	if n := held(addMany); n < many*great/2 {
		t.Errorf("%d bytes are held of %d", n, many*great)
	}
	for what, fill := range map[string]func(x *table.Table){
		"Resize": func(x *table.Table) { addMany(x); x.Resize(great + 64) },
		"Add":    func(x *table.Table) { addMany(x); x.Add("n", strings.Repeat("v", x.Most())) },
		"pieces": func(x *table.Table) {
			for range many {
				block := strings.Repeat("v", great)
				x.Add(block[5:10], block[20:30])
			}
		},
	} {
		if n := held(fill); n > many*great/4 {
			t.Errorf("%s: %d bytes are held", what, n)
		}
	}
}
