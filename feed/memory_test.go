package feed_test

import (
	"runtime"
	"slices"
	"strings"
	"testing"
	"unsafe"

	"nuncio/api"
	"nuncio/feed"
)

// What is handed in isn't kept, and what was answered is nobody else's.

// clones are frames like these, in memory of their own.
func clones(list []api.Frame) []api.Frame {
	list = slices.Clone(list)
	for i := range list {
		list[i].Data = strings.Clone(list[i].Data)
	}
	return list
}

// Whatever comes later, and if it is what takes the feed down.
func TestFramesKeepTheirBytes(t *testing.T) {
	both(t, func(t *testing.T, some func() *feed.Feed) {
		for _, piece := range []int{1, 2, 7, 100, 1000, 50000} {
			f := some()
			all := ""
			for i := range 30 {
				all += sent(of(i, i, uint32(i), filler(i*i+i)))
			}
			all += head(16385, 0, 0, 1) + filler(1000)
			var got, want []api.Frame
			for rest := all; rest != ""; {
				size := min(piece, len(rest))
				list, _ := f.Add(rest[:size])
				rest = rest[size:]
				got = append(got, list...)
				want = append(want, clones(list)...)
				if !slices.Equal(got, want) {
					t.Fatalf("pieces of %d: frames have changed", piece)
				}
			}
			if len(got) != 30 || !f.Down() {
				t.Errorf("pieces of %d: %d frames, down %t", piece, len(got), f.Down())
			}
		}
	})
}

// Lists that were answered are the caller's: what is done to them, and to their spare room, nothing comes of.
func TestListsKeepTheirFrames(t *testing.T) {
	a, b, x := of(0, 0, 1, "a"), of(0, 0, 3, "b"), of(9, 9, 9, "x")
	for count := range 12 {
		f := feed.New(false)
		want := append(slices.Repeat([]api.Frame{a}, count), b)
		lists := [][]api.Frame{}
		for range 5 {
			list, _ := f.Add(sent(want...))
			lists = append(lists, list)
			for _, list := range lists {
				if !slices.Equal(list, want) {
					t.Fatalf("%s, want %s", toldFrames(list), toldFrames(want))
				}
			}
			// Into the spare room.
			_ = append(list, x, x, x)
		}
		for _, list := range lists {
			for i := range list {
				list[i] = x
			}
		}
		adds(t, f, sent(want...), 0, want...)
	}
}

// What is handed in may be changed by who can do so; what is held stays.
func TestWhatIsAddedIsNotKept(t *testing.T) {
	one := of(0, 1, 3, filler(300))
	s := sent(one)
	for _, size := range []int{1, 4, 8, 9, 10, 100, 308} {
		for _, ahead := range [][]api.Frame{nil, {emptySettings}, {one, emptySettings}} {
			f := feed.New(false)
			var got []api.Frame
			add := func(piece string) {
				b := []byte(piece)
				list, _ := f.Add(unsafe.String(&b[0], len(b)))
				got = append(got, list...)
				for i := range b {
					b[i] ^= 0x55
				}
			}
			want := append(slices.Clone(ahead), one, emptySettings)
			add(sent(ahead...) + s[:size])
			add(s[size:] + settings[:1])
			add(settings[1:])
			if !slices.Equal(got, want) {
				t.Errorf("cut at %d: %s", size, toldFrames(got))
			}
		}
		// The same of the preface.
		f := feed.New(true)
		b := []byte(preface[:23])
		adds(t, f, unsafe.String(&b[0], len(b)), 23)
		clear(b)
		adds(t, f, preface[23:]+settings, 0, emptySettings)
	}
}

func TestAnswersAreNewMemory(t *testing.T) {
	for _, size := range []int{1, 2, 40, 16384} {
		one := of(0, 0, 1, filler(size))
		s := sent(one, one, one)
		for _, cut := range []int{0, 1, 9, 10, 9 + size, len(s) - 1} {
			pieces := []string{s[:cut], s[cut:]}
			var datas []string
			f := feed.New(false)
			for range 2 {
				for _, piece := range pieces {
					list, _ := f.Add(piece)
					for _, one := range list {
						datas = append(datas, one.Data)
					}
				}
			}
			if len(datas) != 6 {
				t.Errorf("%d frames", len(datas))
			}
			for i, data := range datas {
				if !apart(data, s) {
					t.Errorf("cut at %d: a frame has a piece of what was added", cut)
				}
				for _, other := range datas[:i] {
					if !apart(data, other) {
						t.Errorf("cut at %d: two frames share memory", cut)
					}
				}
			}
		}
	}
}

// A feed that holds a few bytes of a great piece doesn't keep it, nor the frames that went, nor does one that is down.
func TestNoMoreIsKept(t *testing.T) {
	const size = 64 << 20
	one := sent(of(0, 0, 1, filler(16384)))
	for _, last := range []string{settings, settings[:1], head(16385, 0, 0, 1)} {
		f := feed.New(false)
		before := inUse()
		list, _ := f.Add(strings.Repeat(one, size/len(one)) + last)
		if len(list) < size/len(one) {
			t.Errorf("%d frames", len(list))
		}
		list = nil
		if more := inUse() - before; more > size/8 {
			t.Errorf("%d bytes are kept behind %s", more, told(last))
		}
		runtime.KeepAlive(f)
	}
}

// inUse is how many bytes of memory are reached by something.
func inUse() int {
	var m runtime.MemStats
	runtime.GC()
	runtime.ReadMemStats(&m)
	return int(m.HeapAlloc)
}
