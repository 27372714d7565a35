package unpack_test

import (
	"slices"
	"strings"
	"testing"

	"nuncio/api"
	"nuncio/unpack"
)

// P12.1: what is wrong, and what of it is told.

// place is one where an integer stands: what is in front of it, and its first byte where all of its bits are 1.
type place struct{ name, front, full string }

// places are all of them in a representation.
func places() []place {
	all := []place{{"index", "", "\xff"}, {"size", "", "\x3f"}}
	for _, r := range spelling {
		all = append(all, place{r.name + " index", "", r.full()})
		for _, length := range []string{"\x7f", "\xff"} {
			all = append(all,
				place{r.name + " name", r.integer(0), length},
				place{r.name + " value behind an index", r.integer(1), length},
				place{r.name + " value behind a long index", r.integer(61), length},
				place{r.name + " value", r.integer(0) + plain("name"), length},
				place{r.name + " value behind a coded name", r.integer(0) + coded("name"), length},
				place{r.name + " value behind an empty name", r.integer(0) + plain(""), length})
		}
	}
	return all
}

// fronts may stand ahead of any field.
var fronts = []string{"", "\x82", size(0) + size(4096), add(field("a", "b")), neverAdded("c", "d") + other("e", "f")}

func TestIntegersThatAreCut(t *testing.T) {
	for _, front := range fronts {
		for _, p := range places() {
			newFails(t, front+p.front+p.full, api.ErrShort)
			for _, behind := range []string{"\x80", "\xff", "\x80\x80", "\xff\xff\xff\xff", "\x80\x80\x80\x80", "\xff\x80\xff\x80"} {
				newFails(t, front+p.front+p.full+behind, api.ErrShort)
			}
			// Nothing of it at all.
			if p.front != "" {
				newFails(t, front+p.front, api.ErrShort)
			}
		}
	}
}

func TestIntegersThatAreTooGreat(t *testing.T) {
	for _, front := range fronts {
		for _, p := range places() {
			for _, behind := range []string{"\x80\x80\x80\x80\x10", "\xff\xff\xff\xff\x0f", "\xff\xff\xff\xff\x7f", "\x80\x80\x80\x80\x80", "\x80\x80\x80\x80\x80\x00", "\xff\xff\xff\xff\xff\xff\xff", "\x80\x80\x80\x80\x80\x80\x80\x80\x80\x01"} {
				for _, last := range []string{"", "\x00", "\x82", strings.Repeat("x", 300)} {
					newFails(t, front+p.front+p.full+behind+last, api.ErrInteger)
				}
			}
		}
	}
}

// The greatest ones that layer 9 reads.
func TestIntegersThatAreGreat(t *testing.T) {
	for _, p := range places() {
		want := api.ErrShort
		switch {
		case p.name == "size":
			want = api.ErrResize
		case strings.HasSuffix(p.name, "index") && p.front == "":
			want = api.ErrIndex
		}
		for _, behind := range []string{"\x80\x80\x80\x80\x08", "\x80\x80\x80\x80\x0f", "\x80\xff\xff\xff\x0f", "\x80\xfe\xff\xff\x07", "\x81\xff\xff\xff\x07", "\xff\xff\xff\xff\x07", "\x80\x80\x80\x08", "\xff\xff\xff\x7f", "\xff\xff\x7f"} {
			for _, last := range []string{"", "\x00", "\x82", strings.Repeat("x", 300)} {
				newFails(t, p.front+p.full+behind+last, want)
			}
		}
	}
}

func TestIndexesWithoutAnEntry(t *testing.T) {
	newFails(t, index(0), api.ErrIndex)
	for _, r := range rows[:4] {
		for _, n := range []int{62, 63, 64, 100, 127, 128, 129, 62 + 256, 1 << 14, 1<<16 + 62, 1<<31 - 1, 1 << 31, 1<<32 - 1} {
			newFails(t, r.named(n, "v"), api.ErrIndex)
			newFails(t, r.integer(n), api.ErrIndex)
		}
		newFails(t, "\x82"+r.named(62, "v"), api.ErrIndex)
		d := unpack.New()
		reads(t, d, add(field("a", "b"))+add(field("c", "d")), field("a", "b"), field("c", "d"))
		reads(t, d, r.named(63, "b"), r.field("a", "b"))
		if r.name == "added" {
			reads(t, d, r.named(64, "b"), field("a", "b"))
			fails(t, d, r.named(66, "v"), api.ErrIndex)
			continue
		}
		fails(t, d, r.named(64, "v"), api.ErrIndex)
	}
}

// What is gone by a size has no number any more, within the block and in the next ones.
func TestIndexesOfWhatIsGone(t *testing.T) {
	for _, r := range rows[:4] {
		d := unpack.New()
		reads(t, d, add(field("a", "b"))+add(field("c", "d")), field("a", "b"), field("c", "d"))
		fails(t, d, size(67)+r.named(63, "v"), api.ErrIndex)
		d = unpack.New()
		reads(t, d, add(field("a", "b"))+add(field("c", "d")), field("a", "b"), field("c", "d"))
		reads(t, d, size(0)+size(4096))
		fails(t, d, r.named(62, "v"), api.ErrIndex)
		// By one that is added.
		d = unpack.New()
		reads(t, d, size(68)+add(field("a", "b"))+add(field("c", "d")), field("a", "b"), field("c", "d"))
		reads(t, d, add(field("e", "f")), field("e", "f"))
		fails(t, d, r.named(64, "v"), api.ErrIndex)
	}
}

func TestSizesThatAreTooGreat(t *testing.T) {
	for _, n := range []int{4097, 4098, 4127, 4128, 5000, 8192, 65535, 65536, 65536 + 4096, 1<<31 - 1, 1 << 31, 1<<32 - 1} {
		newFails(t, size(n), api.ErrResize)
		newFails(t, size(4096)+size(n), api.ErrResize)
		newFails(t, size(0)+size(0)+size(n), api.ErrResize)
		newFails(t, size(n)+size(0), api.ErrResize)
		newFails(t, size(n)+"\x80", api.ErrResize)
		newFails(t, "\x82"+size(n), api.ErrResize)
		d := unpack.New()
		reads(t, d, size(0))
		fails(t, d, size(n), api.ErrResize)
	}
}

func TestSizesBehindAField(t *testing.T) {
	for _, r := range rows[:4] {
		for _, n := range []int{0, 1, 30, 31, 4095, 4096, 4097, 1<<32 - 1} {
			newFails(t, r.named(2, "v")+size(n), api.ErrResize)
			newFails(t, size(4096)+r.named(2, "v")+size(n)+index(2), api.ErrResize)
			newFails(t, some(63, r.named(2, "v"))+size(n), api.ErrResize)
			// A size is no field, so it isn't the 65th.
			newFails(t, some(64, r.named(2, "v"))+size(n), api.ErrResize)
		}
	}
	// That its integer is wrong is named first.
	newFails(t, "\x82\x3f", api.ErrShort)
	newFails(t, "\x82\x3f\x80", api.ErrShort)
	newFails(t, "\x82\x3f\xff\xff\xff\xff\x7f", api.ErrInteger)
	newFails(t, "\x82\x3f\x80\x80\x80\x80\x80\x00", api.ErrInteger)
	newFails(t, some(64, "\x82")+"\x3f", api.ErrShort)
	newFails(t, some(64, "\x82")+"\x3f\x80\x80\x80\x80\x80\x00", api.ErrInteger)
}

// Each text lacks some of its bytes, the last one alone among them.
func TestTextsThatAreCut(t *testing.T) {
	for _, front := range fronts {
		for _, r := range spelling {
			for _, s := range []string{"v", "www.example.com", strings.Repeat("x", 126), strings.Repeat("x", 127), strings.Repeat("x", 128), strings.Repeat("x", 300)} {
				for _, text := range []string{plain(s), coded(s)} {
					for _, ahead := range []string{r.integer(0), r.integer(1), r.integer(61), r.integer(0) + plain("n"), r.integer(0) + coded("name"), r.integer(0) + plain("")} {
						for n := range len(text) {
							newFails(t, front+ahead+text[:n], api.ErrShort)
						}
					}
				}
			}
		}
	}
	// Nothing behind the name, not even a length.
	for _, r := range spelling {
		newFails(t, r.integer(0)+plain("name"), api.ErrShort)
		newFails(t, r.integer(0)+coded("name"), api.ErrShort)
		newFails(t, r.integer(0)+plain(""), api.ErrShort)
		newFails(t, r.integer(1), api.ErrShort)
		newFails(t, r.integer(0), api.ErrShort)
	}
}

// undecodable are bytes that layer 10 doesn't decode.
var undecodable = []string{"\xff", "\x00", "\xff\xff", "\xff\xff\xff\xff", "\x64\x02\xff", "\xf1\xe3\xc2\xe5\xf2\x3a\x6b\xa0\xab\x90\xf4\xfe", "\xa8\xeb\x10\x64\x9c", strings.Repeat("\xff", 200)}

func TestTextsThatCantBeDecoded(t *testing.T) {
	for _, front := range fronts {
		for _, r := range spelling {
			for _, s := range undecodable {
				for _, behind := range []string{"", "\x00", plain("v"), coded("v"), raw("\xff"), "\x05v", "\x80\x80"} {
					newFails(t, front+r.integer(0)+raw(s)+behind, api.ErrPadding)
					newFails(t, front+r.integer(1)+raw(s)+behind, api.ErrPadding)
					newFails(t, front+r.integer(0)+plain("n")+raw(s)+behind, api.ErrPadding)
					newFails(t, front+r.integer(0)+coded("n")+raw(s)+behind, api.ErrPadding)
				}
				// A text that lacks bytes isn't decoded.
				cut := raw(s)[:len(raw(s))-1]
				newFails(t, front+r.integer(0)+cut, api.ErrShort)
				newFails(t, front+r.integer(1)+cut, api.ErrShort)
				// Nor is one whose first byte is below 128.
				newReads(t, r.integer(0)+plain(s)+plain(s), r.field(s, s))
			}
		}
	}
}

// wrong is a representation that is, and how it is told.
type wrong struct {
	name, block string
	want        api.Errno
}

// wrongs are some of each kind, with nothing lacking unless that is it.
func wrongs() []wrong {
	all := []wrong{
		{"index 0", index(0), api.ErrIndex},
		{"index of none", index(126), api.ErrIndex},
		{"index too great", "\xff\x80\x80\x80\x80\x80", api.ErrInteger},
		{"index cut", "\xff\x80", api.ErrShort},
		{"size too great", size(4097), api.ErrResize},
		{"size's integer too great", "\x3f\xff\xff\xff\xff\x7f", api.ErrInteger},
		{"size cut", "\x3f\x80", api.ErrShort},
	}
	for _, r := range spelling {
		all = append(all,
			wrong{r.name + ", index of none", r.named(126, "v"), api.ErrIndex},
			wrong{r.name + ", index too great", r.full() + "\x80\x80\x80\x80\x80", api.ErrInteger},
			wrong{r.name + ", index cut", r.full() + "\x80", api.ErrShort},
			wrong{r.name + ", no name", r.integer(0), api.ErrShort},
			wrong{r.name + ", name's length too great", r.integer(0) + "\x7f\x80\x80\x80\x80\x80", api.ErrInteger},
			wrong{r.name + ", name's length cut", r.integer(0) + "\x7f\x80", api.ErrShort},
			wrong{r.name + ", name cut", r.integer(0) + "\x7f\xff\x7fname", api.ErrShort},
			wrong{r.name + ", name not decoded", r.integer(0) + "\x81\xff" + plain("v"), api.ErrPadding},
			wrong{r.name + ", no value", r.integer(1), api.ErrShort},
			wrong{r.name + ", value's length too great", r.integer(1) + "\x7f\x80\x80\x80\x80\x80", api.ErrInteger},
			wrong{r.name + ", value's length cut", r.integer(1) + "\x7f\x80", api.ErrShort},
			wrong{r.name + ", value cut", r.integer(1) + "\x7f\xff\x7fvalue", api.ErrShort},
			wrong{r.name + ", value not decoded", r.integer(1) + "\x81\xff", api.ErrPadding})
	}
	return all
}

// whole: is what stands behind it read as a representation of its own? (Else it may fill up what is lacking.)
func (w wrong) whole() bool { return w.want != api.ErrShort }

func TestWhatStandsFurtherInFrontIsTold(t *testing.T) {
	for _, w := range wrongs() {
		t.Run(w.name, func(t *testing.T) {
			for _, front := range fronts {
				newFails(t, front+w.block, w.want)
				if !w.whole() {
					continue
				}
				for _, next := range wrongs() {
					newFails(t, front+w.block+next.block, w.want)
				}
				newFails(t, front+w.block+some(70, "\x82"), w.want)
			}
		})
	}
}

// Within one representation: the index is told ahead of the texts, the name ahead of the value, a length ahead of its bytes.
func TestWhatStandsFurtherInFrontOfARepresentation(t *testing.T) {
	for _, r := range spelling {
		for _, behind := range []string{"", "\x7f", "\x7f\x80\x80\x80\x80\x80", "\x05v", "\x81\xff", "\x01v"} {
			newFails(t, r.integer(62)+behind, api.ErrIndex)
			newFails(t, r.integer(1000)+behind, api.ErrIndex)
			newFails(t, r.integer(0)+"\x81\xff"+behind, api.ErrPadding)
			newFails(t, r.integer(0)+"\x7f\x80\x80\x80\x80\x80"+behind, api.ErrInteger)
			newFails(t, r.full()+"\x80\x80\x80\x80\x80"+behind, api.ErrInteger)
		}
		newFails(t, r.integer(0)+plain("n")+"\x82\xff", api.ErrShort)
		newFails(t, r.integer(0)+"\x83\xff\xff", api.ErrShort)
	}
}

func TestA65thField(t *testing.T) {
	for _, r := range rows[:4] {
		front := some(64, r.named(2, "v"))
		for _, next := range rows[:4] {
			newFails(t, front+next.named(2, "v"), api.ErrList)
			newFails(t, size(4096)+size(4096)+front+next.named(2, "v"), api.ErrList)
			newFails(t, front+next.named(2, "v")+some(100, "\x82"), api.ErrList)
		}
		// It is told at its first byte, whatever is wrong in it or behind it.
		for c := range 256 {
			if c/32 == 1 {
				continue
			}
			newFails(t, front+string([]byte{byte(c)}), api.ErrList)
		}
		for _, w := range wrongs() {
			if strings.HasPrefix(w.name, "size") {
				newFails(t, front+w.block, w.want)
				continue
			}
			newFails(t, front+w.block, api.ErrList)
			newFails(t, front+"\x82"+w.block, api.ErrList)
		}
	}
	newFails(t, some(65, "\x82")+size(0), api.ErrList)
	newFails(t, some(64, "\x82")+size(0)+"\x82", api.ErrResize)
}

func TestWhatIsWrongAheadOfA65thField(t *testing.T) {
	for _, w := range wrongs() {
		for _, many := range []int{1, 2, 32, 62, 63} {
			newFails(t, some(many, "\x82")+w.block, w.want)
			if w.whole() {
				newFails(t, some(many, "\x82")+w.block+some(65, "\x82"), w.want)
			}
		}
	}
}

// A block that is cut is read as far as its last whole representation, or lacks something.
func TestBlocksThatAreCut(t *testing.T) {
	parts := []string{size(3000), size(4000), index(2), added("name", "value"), addedAt(62, "other"), "\x40" + coded("custom-key") + coded("custom-value"),
		neverAdded("password", "secret"), other(strings.Repeat("n", 130), strings.Repeat("v", 200)), index(63), "\x0f\x2f" + plain("x"), "\x1f\x00\x80"}
	sizes := 2
	block := strings.Join(parts, "")
	fields := map[int]int{0: 0}
	at := 0
	for i, p := range parts {
		at += len(p)
		fields[at] = max(i+1-sizes, 0)
	}
	for n := range len(block) + 1 {
		got, e := unpack.New().Read(block[:n])
		many, whole := fields[n]
		want := api.ErrShort
		if whole {
			want = api.OK
		}
		if e != want || len(got) != many {
			t.Errorf("cut at %d: %d fields, %d, want %d, %d", n, len(got), e, many, want)
		}
	}
}

// Blocks as long as may come, or with as much in them.
func TestGreatBlocks(t *testing.T) {
	newReads(t, some(api.MaxBlock, size(0)))
	newFails(t, some(api.MaxBlock, "\x82"), api.ErrList)
	newFails(t, some(api.MaxBlock, "\x80"), api.ErrIndex)
	newFails(t, some(api.MaxBlock, "\xff"), api.ErrInteger)
	newFails(t, some(api.MaxBlock, "\x00"), api.ErrList)
	newReads(t, some(64*3, "\x00"), make([]api.Field, 64)...)
	newFails(t, some(64*3-1, "\x00"), api.ErrShort)
	f := field(strings.Repeat("n", 2000), strings.Repeat("v", 2064))
	d := unpack.New()
	reads(t, d, add(f), f)
	reads(t, d, some(64, index(62)), slices.Repeat([]api.Field{f}, 64)...)
}
