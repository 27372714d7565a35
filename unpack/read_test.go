package unpack_test

import (
	"fmt"
	"slices"
	"strings"
	"testing"

	"nuncio/api"
	"nuncio/unpack"
)

// P12.1: what is read where nothing is wrong.

func TestNew(t *testing.T) {
	d := unpack.New()
	holds(t, d, 4096)
	if d.Down() {
		t.Error("a new one is down")
	}
}

func TestAnEmptyBlock(t *testing.T) {
	d := unpack.New()
	reads(t, d, "")
	holds(t, d, 4096)
	reads(t, d, add(field("a", "b")), field("a", "b"))
	reads(t, d, "")
	reads(t, d, index(62), field("a", "b"))
	holds(t, d, 4096, field("a", "b"))
}

// Each first byte by itself, and with the least behind it that makes it right, if something does. The table has one entry.
func TestEachFirstByte(t *testing.T) {
	a := field("a", "b")
	name := func(n int) string {
		if n == 62 {
			return "a"
		}
		return entry(n).Name
	}
	for c := range 256 {
		d := unpack.New()
		reads(t, d, add(a), a)
		first := string([]byte{byte(c)})
		switch n := c % 16; {
		case c == 255:
			fails(t, d, first+"\x00", api.ErrIndex)
		case c > 190 || c == 128:
			fails(t, d, first, api.ErrIndex)
		case c == 190:
			reads(t, d, first, a)
		case c > 128:
			reads(t, d, first, entry(c-128))
		case c == 127:
			fails(t, d, first+"\x00\x01v", api.ErrIndex)
		case c > 64:
			reads(t, d, first+"\x01v", field(name(c-64), "v"))
			holds(t, d, 4096, field(name(c-64), "v"), a)
		case c == 64:
			reads(t, d, first+"\x01n\x01v", field("n", "v"))
			holds(t, d, 4096, field("n", "v"), a)
		case c == 63:
			reads(t, d, first+"\x00")
			holds(t, d, 31)
		case c >= 32:
			reads(t, d, first)
			holds(t, d, c-32)
		default:
			want := api.Field{Name: "n", Value: "v", Never: c >= 16}
			switch n {
			case 0:
				first += "\x01n"
			case 15:
				first += "\x00"
			}
			if n > 0 {
				want.Name = entry(n).Name
			}
			reads(t, d, first+"\x01v", want)
			holds(t, d, 4096, a)
		}
	}
}

func TestEachFixedEntry(t *testing.T) {
	for n := 1; n <= 61; n++ {
		newReads(t, index(n), entry(n))
		for _, r := range spelling {
			for _, value := range []string{"", "v", entry(n).Value, "another value"} {
				d := unpack.New()
				reads(t, d, r.named(n, value), r.field(entry(n).Name, value))
				if r.name == "added" {
					holds(t, d, 4096, field(entry(n).Name, value))
				} else {
					holds(t, d, 4096)
				}
			}
		}
	}
}

// Entries that were added, of tables of each length up to some, by each row.
func TestEachEntryThatWasAdded(t *testing.T) {
	for many := 1; many < 90; many++ {
		for n := 62; n < 62+many; n++ {
			for _, r := range rows[:4] {
				d := unpack.New()
				for i := range many {
					reads(t, d, add(field(fmt.Sprint("n", i), fmt.Sprint("v", i))), field(fmt.Sprint("n", i), fmt.Sprint("v", i)))
				}
				i := many - 1 - (n - 62)
				want := r.field(fmt.Sprint("n", i), "x")
				if r.name == "index" {
					want.Value = fmt.Sprint("v", i)
				}
				reads(t, d, r.named(n, "x"), want)
			}
		}
		// The one behind the last.
		for _, r := range rows[:4] {
			d := unpack.New()
			for i := range many {
				reads(t, d, add(field(fmt.Sprint("n", i), "v")), field(fmt.Sprint("n", i), "v"))
			}
			fails(t, d, r.named(62+many, "x"), api.ErrIndex)
		}
	}
}

func TestNamesAndValuesAsTexts(t *testing.T) {
	all := []string{"", "a", "custom-key", "www.example.com", ":method", "\x00", "\xff\x80", "A B\r\n=", "é€", strings.Repeat("0", 200), strings.Repeat("\xff", 40)}
	for c := range 256 {
		all = append(all, string([]byte{byte(c)}))
	}
	for _, r := range spelling {
		for _, name := range all[:12] {
			for _, value := range all {
				want := r.field(name, value)
				newReads(t, r.integer(0)+plain(name)+plain(value), want)
				newReads(t, r.integer(0)+coded(name)+plain(value), want)
				newReads(t, r.integer(0)+plain(name)+coded(value), want)
				newReads(t, r.integer(0)+coded(name)+coded(value), want)
				newReads(t, r.integer(0)+coded(value)+plain(name), r.field(value, name))
				newReads(t, r.integer(4)+coded(value), r.field(":path", value))
			}
		}
	}
}

// Where the bytes of a text are those that layer 10 makes, but its first byte says that they are it themselves.
func TestTextsThatLookCoded(t *testing.T) {
	for _, r := range spelling {
		newReads(t, r.integer(0)+"\x02\x64\x02"+"\x82\x64\x02", r.field("d\x02", "302"))
		newReads(t, r.integer(0)+"\x82\x64\x02"+"\x02\x64\x02", r.field("302", "d\x02"))
		newReads(t, r.integer(0)+"\x80"+"\x00", r.field("", ""))
		newReads(t, r.integer(0)+"\x00"+"\x80", r.field("", ""))
	}
}

// About the lengths at which the integers take more bytes.
func TestTextsOfManyLengths(t *testing.T) {
	for _, n := range []int{0, 1, 2, 62, 63, 64, 125, 126, 127, 128, 129, 253, 254, 255, 256, 382, 383, 4000, 4095, 4096, 4097, 16383, 16384, 16510, 16511, 16512, 70000, 1 << 20} {
		long := strings.Repeat("x", n)
		for _, r := range spelling {
			newReads(t, r.spelt(long, "v"), r.field(long, "v"))
			newReads(t, r.spelt("n", long), r.field("n", long))
			newReads(t, r.integer(0)+coded(long)+coded("v"), r.field(long, "v"))
			newReads(t, r.named(1, long), r.field(":authority", long))
			// Of so many bytes that are decoded: eight 5-bit signs in five.
			newReads(t, r.named(1, "")+r.integer(0)+raw(strings.Repeat("\x00", n/5*5))+plain("v"), r.field(":authority", ""), r.field(strings.Repeat("0", n/5*8), "v"))
		}
	}
}

// An integer may have more bytes than need be, wherever it stands.
func TestIntegersOfMoreBytesThanNeedBe(t *testing.T) {
	long := strings.Repeat("x", 127)
	// Of 127 bytes, 1016 bits: 203 of five bits each, and one that is left.
	zeros := strings.Repeat("\x00", 126) + "\x01"
	for more := range 5 {
		behind := strings.Repeat("\x80", more) + "\x00"
		d := unpack.New()
		for i := range 70 {
			f := field(fmt.Sprint("n", i), "v")
			reads(t, d, add(f), f)
		}
		reads(t, d, "\xff"+behind, field("n4", "v"))
		reads(t, d, "\x1f"+behind+plain("w"), never("accept-charset", "w"))
		reads(t, d, "\x0f"+behind+plain("w"), field("accept-charset", "w"))
		reads(t, d, "\x7f"+behind+plain("w"), field("n68", "w"))
		for _, r := range spelling {
			reads(t, d, r.integer(0)+"\x7f"+behind+long+"\x7f"+behind+long, r.field(long, long))
			reads(t, d, r.integer(0)+"\xff"+behind+zeros+"\xff"+behind+zeros, r.field(strings.Repeat("0", 203), strings.Repeat("0", 203)))
			reads(t, d, r.integer(1)+"\x7f"+behind+long, r.field(":authority", long))
			reads(t, d, r.integer(1)+"\xff"+behind+zeros, r.field(":authority", strings.Repeat("0", 203)))
		}
		reads(t, d, "\x3f"+behind)
		holds(t, d, 31)
	}
}

func TestFieldsInOrder(t *testing.T) {
	newReads(t, index(2)+other("a", "b")+neverAdded("c", "d")+added("e", "f")+index(62)+addedAt(62, "g")+index(62)+index(63)+index(2)+other("a", "b"),
		field(":method", "GET"), field("a", "b"), never("c", "d"), field("e", "f"), field("e", "f"), field("e", "g"), field("e", "g"), field("e", "f"), field(":method", "GET"), field("a", "b"))
}

// Each row of a field behind each other one: none leaves anything to the next.
func TestEachRowBehindEachOther(t *testing.T) {
	for _, one := range rows[:4] {
		for _, next := range rows[:4] {
			want := []api.Field{one.field(":method", "one"), next.field(":scheme", "two"), one.field(":method", "one")}
			for i, r := range []row{one, next, one} {
				if r.name == "index" {
					want[i] = entry([]int{2, 6, 2}[i])
				}
			}
			newReads(t, one.named(2, "one")+next.named(6, "two")+one.named(2, "one"), want...)
			for _, third := range spelling {
				newReads(t, one.named(2, "one")+next.named(6, "two")+third.spelt("n", ""), want[0], want[1], third.field("n", ""))
			}
		}
	}
}

func TestSizesAheadOfTheFields(t *testing.T) {
	for _, n := range []int{0, 1, 30, 31, 32, 33, 100, 158, 159, 160, 4094, 4095, 4096} {
		d := unpack.New()
		reads(t, d, size(n))
		holds(t, d, n)
		for _, m := range []int{0, 1, 31, 4095, 4096} {
			d := unpack.New()
			reads(t, d, size(n)+size(m))
			holds(t, d, m)
			reads(t, d, size(m)+size(n)+size(n)+index(2), entry(2))
			holds(t, d, n)
		}
	}
	// As many as there may be.
	d := unpack.New()
	reads(t, d, strings.Repeat(size(4096)+size(0), 3000)+size(77)+some(64, index(8)), slices.Repeat([]api.Field{entry(8)}, 64)...)
	holds(t, d, 77)
}

// A size stands ahead of the fields of its own block; those of blocks in front don't count.
func TestSizesInEachBlock(t *testing.T) {
	d := unpack.New()
	for i := range 50 {
		f := field("n", fmt.Sprint(i))
		reads(t, d, size(100+i)+add(f)+index(2), f, entry(2))
		if got := d.Table().Most(); got != 100+i {
			t.Errorf("Most = %d, want %d", got, 100+i)
		}
		reads(t, d, size(200))
		reads(t, d, index(62), f)
	}
}

func TestAsManyFieldsAsMayBe(t *testing.T) {
	for _, r := range rows[:4] {
		one := r.field(":method", "v")
		if r.name == "index" {
			one = entry(2)
		}
		d := unpack.New()
		for range 3 {
			// The block in front doesn't count.
			for _, many := range []int{1, 63, 64} {
				reads(t, d, some(many, r.named(2, "v")), slices.Repeat([]api.Field{one}, many)...)
			}
			reads(t, d, size(0)+size(4096)+some(64, r.named(2, "v")), slices.Repeat([]api.Field{one}, 64)...)
		}
	}
}

// What a block is told twice, and on two decoders, is the same.
func TestDecodersGoTheirOwnWays(t *testing.T) {
	d, c := unpack.New(), unpack.New()
	reads(t, d, add(field("a", "b")), field("a", "b"))
	holds(t, c, 4096)
	reads(t, c, size(50)+add(field("c", "d")), field("c", "d"))
	holds(t, d, 4096, field("a", "b"))
	fails(t, c, "\x80", api.ErrIndex)
	reads(t, d, index(62), field("a", "b"))
	holds(t, unpack.New(), 4096)
}
