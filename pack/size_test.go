package pack_test

import (
	"math"
	"strings"
	"testing"

	"nuncio/api"
	"nuncio/pack"
	"nuncio/unpack"
)

// P13.1: Limit, and the sizes that stand ahead of the fields.

func TestANewOneHasNoSizesToTell(t *testing.T) {
	c := pack.New()
	holds(t, c, 4096)
	writes(t, c, "")
	writes(t, c, "\x82", entry(2))
}

// Limits of 4096 and above are the size that it has.
func TestLimitsThatLeaveTheSize(t *testing.T) {
	for _, n := range []uint32{4096, 4097, 5000, 65536, 1 << 31, math.MaxUint32 - 1, math.MaxUint32} {
		c := pack.New()
		c.Limit(n)
		holds(t, c, 4096)
		writes(t, c, "\x82", entry(2))
		writes(t, c, added(0, plain("x")+plain("y")), field("x", "y"))
		c.Limit(n)
		c.Limit(4096)
		holds(t, c, 4096, field("x", "y"))
		writes(t, c, "\xbe", field("x", "y"))
	}
	for _, most := range []int{0, 1, 50, 4095} {
		c := limited(most)
		c.Limit(uint32(most))
		writes(t, c, "\x82", entry(2))
		c.Limit(uint32(most))
		c.Limit(uint32(most))
		writes(t, c, "")
		holds(t, c, most)
	}
}

// Each size, from 4096 and back to it; those from 31 on need more bytes than one.
func TestEachSize(t *testing.T) {
	for n := range 4200 {
		c, d := pack.New(), unpack.New()
		c.Limit(uint32(n))
		most, want := n, size(n)
		if n >= 4096 {
			most, want = 4096, ""
		}
		writes(t, c, want)
		follows(t, d, c, want)
		holds(t, c, most)
		if n < 4096 {
			want = size(4096)
		}
		c.Limit(4100)
		writes(t, c, want)
		follows(t, d, c, want)
		holds(t, c, 4096)
	}
}

func TestSizesAreSpelt(t *testing.T) {
	for n, want := range map[uint32]string{0: "\x20", 1: "\x21", 30: "\x3e", 31: "\x3f\x00", 50: "\x3f\x13", 158: "\x3f\x7f", 159: "\x3f\x80\x01", 4095: "\x3f\xe0\x1f"} {
		c := pack.New()
		c.Limit(n)
		writes(t, c, want)
		c.Limit(math.MaxUint32)
		writes(t, c, "\x3f\xe1\x1f")
	}
}

// span is the limits between two Writes, and the sizes that the second one tells.
type span struct {
	limits []uint32
	want   []int
}

// spans are what may happen to a size of 1000.
func spans() []span {
	return []span{
		{nil, nil},
		{[]uint32{1000}, nil},
		{[]uint32{1000, 1000, 1000}, nil},
		{[]uint32{999}, []int{999}},
		{[]uint32{1001}, []int{1001}},
		{[]uint32{0}, []int{0}},
		{[]uint32{4096}, []int{4096}},
		{[]uint32{4097}, []int{4096}},
		{[]uint32{1 << 31}, []int{4096}},
		// Down twice, and up twice.
		{[]uint32{600, 300}, []int{300}},
		{[]uint32{2000, 3000}, []int{2000, 3000}},
		{[]uint32{4097, 4098}, []int{4096}},
		// Down and up again: below the size that was, to it, and above it.
		{[]uint32{300, 600}, []int{300, 600}},
		{[]uint32{300, 1000}, []int{300, 1000}},
		{[]uint32{999, 1000}, []int{999, 1000}},
		{[]uint32{300, 2000}, []int{300, 2000}},
		{[]uint32{300, 5000}, []int{300, 4096}},
		{[]uint32{0, 1000}, []int{0, 1000}},
		{[]uint32{999, 1001}, []int{999, 1001}},
		// Up and down again.
		{[]uint32{2000, 600}, []int{600}},
		{[]uint32{2000, 1000}, []int{1000}},
		{[]uint32{1001, 1000}, []int{1000}},
		{[]uint32{2000, 1500}, []int{1500}},
		{[]uint32{5000, 1000}, []int{1000}},
		// Of three the least one is in front, in the middle, or behind.
		{[]uint32{300, 600, 450}, []int{300, 450}},
		{[]uint32{600, 300, 450}, []int{300, 450}},
		{[]uint32{600, 450, 300}, []int{300}},
		{[]uint32{2000, 300, 1000}, []int{300, 1000}},
		{[]uint32{2000, 300, 2000}, []int{300, 2000}},
		{[]uint32{2000, 1500, 1800}, []int{1500, 1800}},
		{[]uint32{300, 2000, 1000}, []int{300, 1000}},
		{[]uint32{300, 2000, 300}, []int{300}},
		{[]uint32{300, 2000, 200}, []int{200}},
		{[]uint32{300, 600, 300, 600}, []int{300, 600}},
		{[]uint32{600, 300, 600, 200, 800}, []int{200, 800}},
		// The size that was doesn't count among those that were given, but where it is given again.
		{[]uint32{2000, 1000, 3000}, []int{1000, 3000}},
		{[]uint32{1000, 2000, 3000}, []int{2000, 3000}},
		{[]uint32{1000, 2000}, []int{2000}},
		// Those that leave it as it is give none.
		{[]uint32{2000, 2000}, []int{2000}},
		{[]uint32{300, 300, 600, 600}, []int{300, 600}},
		{[]uint32{4096, 5000, 6000}, []int{4096}},
	}
}

// block is the sizes of a span as they are laid.
func (s span) block() string {
	b := ""
	for _, n := range s.want {
		b += size(n)
	}
	return b
}

// happens is what a span tells an encoder; the table's size is the last limit's at each step.
func (s span) happens(t *testing.T, c *pack.Encoder) {
	t.Helper()
	for _, n := range s.limits {
		c.Limit(n)
		if got := c.Table().Most(); got != int(min(n, 4096)) {
			t.Errorf("behind Limit(%d) the size is %d", n, got)
		}
	}
}

func TestSizesBetweenTwoWrites(t *testing.T) {
	for _, s := range spans() {
		for _, fields := range [][]api.Field{nil, {entry(2)}, {field("x", "y"), entry(3), field("x", "y")}} {
			c, d := limited(1000), unpack.New()
			d.Read(size(1000))
			s.happens(t, c)
			block := c.Write(fields...)
			if !strings.HasPrefix(block, s.block()) || len(fields) == 0 && block != s.block() || len(fields) == 1 && block != s.block()+"\x82" {
				t.Errorf("behind %d, %s was written, sizes %d want", s.limits, told(block), s.want)
			}
			follows(t, d, c, block, fields...)
			// They are told once.
			writes(t, c, "")
			writes(t, c, "\x83", entry(3))
			holds(t, c, d.Table().Most(), entries(d.Table())...)
		}
	}
}

// The next span starts anew: what was least in the one ahead of it plays no part, nor does the size ahead of that.
func TestSizesOfOneSpanBehindAnother(t *testing.T) {
	for _, first := range spans() {
		for _, second := range spans() {
			c, d := limited(1000), unpack.New()
			d.Read(size(1000))
			first.happens(t, c)
			writes(t, c, first.block()+"\x82", entry(2))
			follows(t, d, c, first.block()+"\x82", entry(2))
			c.Limit(1000)
			c.Write()
			d.Read(size(1000))
			second.happens(t, c)
			writes(t, c, second.block())
			follows(t, d, c, second.block())
		}
	}
}

// A Limit behind a Write is told by the next one; a Write without fields tells it, too.
func TestALimitBehindAWrite(t *testing.T) {
	c := pack.New()
	writes(t, c, "\x82", entry(2))
	c.Limit(50)
	writes(t, c, "\x3f\x13\x82", entry(2))
	c.Limit(60)
	writes(t, c, "\x3f\x1d")
	writes(t, c, "\x82", entry(2))
	c.Limit(20)
	writes(t, c, "\x34")
	c.Limit(30)
	writes(t, c, "\x3e")
	c.Limit(25)
	c.Limit(10)
	c.Limit(15)
	writes(t, c, "\x2a\x2f")
	c.Limit(20)
	writes(t, c, "\x34")
}

// The table is resized at once: what goes then doesn't come back.
func TestEntriesGoAtOnce(t *testing.T) {
	x, y, z := field("x", "1"), field("y", "2"), field("z", "3")
	for n := range uint32(120) {
		c, d := pack.New(), unpack.New()
		follows(t, d, c, c.Write(x, y, z), x, y, z)
		want := []api.Field{z, y, x}[:min(n/34, 3)]
		c.Limit(n)
		holds(t, c, int(n), want...)
		c.Limit(4096)
		holds(t, c, 4096, want...)
		block := size(int(n)) + size(4096)
		for i := range want {
			block += index(62 + i)
		}
		writes(t, c, block, want...)
		follows(t, d, c, block, want...)
	}
}

// Those that went are laid anew, by the room that is now.
func TestFieldsBehindASize(t *testing.T) {
	f, g := field("x", "y"), field("z", bare(90))
	laid := added(0, plain("x")+plain("y"))
	c, d := pack.New(), unpack.New()
	follows(t, d, c, c.Write(f), f)
	c.Limit(0)
	c.Limit(100)
	block := "\x20\x3f\x45" + laid + other(0, plain("z")+plain(g.Value))
	writes(t, c, block, f, g)
	follows(t, d, c, block, f, g)
	holds(t, c, 100, f)
	c.Limit(123)
	block = "\x3f\x5c" + "\xbe" + added(0, plain("z")+plain(g.Value)) + other(0, plain("\x01")+plain(g.Value+"\x00"))
	h := field("\x01", g.Value+"\x00")
	writes(t, c, block, f, g, h)
	follows(t, d, c, block, f, g, h)
	holds(t, c, 123, g)
	c.Limit(33)
	block = "\x3f\x02" + other(0, plain("x")+plain("y"))
	writes(t, c, block, f)
	follows(t, d, c, block, f)
	holds(t, c, 33)
	c.Limit(34)
	writes(t, c, "\x3f\x03"+laid, f)
	holds(t, c, 34, f)
}
