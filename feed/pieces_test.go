package feed_test

import (
	"fmt"
	"math/rand"
	"slices"
	"testing"

	"nuncio/api"
	"nuncio/feed"
)

// P15.3: in what pieces bytes come plays no part.

// outcome is what a feed made of bytes, and what it is then.
type outcome struct {
	frames []api.Frame
	code   uint32
	held   int
	down   bool
}

// outcomeOf is that for pieces, one by one. A code is told once.
func outcomeOf(t *testing.T, wants bool, pieces ...string) outcome {
	t.Helper()
	var o outcome
	f := feed.New(wants)
	for i, piece := range pieces {
		list, code := f.Add(piece)
		if o.code != fine && (len(list) > 0 || code != fine) {
			t.Errorf("down, piece %d: %s, %d", i, toldFrames(list), code)
		}
		o.frames = append(o.frames, list...)
		o.code = max(o.code, code)
		if f.Down() != (o.code != fine) {
			t.Errorf("piece %d: down %t with the code %d", i, f.Down(), o.code)
		}
		if f.Held() > mostHeld {
			t.Errorf("piece %d: %d bytes are held", i, f.Held())
		}
	}
	o.held, o.down = f.Held(), f.Down()
	return o
}

// same fails if an outcome is another one.
func same(t *testing.T, what string, got, want outcome) {
	t.Helper()
	if !slices.Equal(got.frames, want.frames) || got.code != want.code || got.held != want.held || got.down != want.down {
		t.Fatalf("%s: %s, %d, %d held, down %t, want %s, %d, %d, %t", what, toldFrames(got.frames), got.code, got.held, got.down, toldFrames(want.frames), want.code, want.held, want.down)
	}
}

// cutInto are pieces of so many bytes, the last one of what is left.
func cutInto(s string, size int) []string {
	var pieces []string
	for ; len(s) > size; s = s[size:] {
		pieces = append(pieces, s[:size])
	}
	return append(pieces, s)
}

// stream is some bytes and what comes of them.
type stream struct {
	name  string
	wants bool
	bytes string
	want  outcome
}

// streams are some that end in whole frames, and some that end otherwise.
func streams() []stream {
	list := []api.Frame{emptySettings, of(4, 1, 0, ""), of(0, 1, 1, "hello"), of(77, 255, maxStream, "\x00\x40\x01\x00\x00\x00\x00\x00\x00")}
	all := sent(list...)
	long := head(16385, 1, 4, 3)
	last := of(1, 4, 3, filler(30))
	return []stream{
		{"nothing", false, "", outcome{}},
		{"nothing, the preface is wanted", true, "", outcome{}},
		{"the preface", true, preface, outcome{}},
		{"a part of it", true, preface[:20], outcome{held: 20}},
		{"frames", false, all, outcome{frames: list}},
		{"the preface and frames", true, preface + all, outcome{frames: list}},
		{"frames and a part of one", true, preface + all + sent(last)[:31], outcome{frames: list, held: 31}},
		{"frames and a part of a head", false, all + long[:8], outcome{frames: list, held: 8}},
		{"frames and a length that is too great", true, preface + all + long, outcome{frames: list, code: frameSize, down: true}},
		{"frames behind that", false, all + long + all, outcome{frames: list, code: frameSize, down: true}},
		{"that at once", true, preface + long + all, outcome{code: frameSize, down: true}},
		{"no preface", true, all, outcome{code: protocol, down: true}},
		{"another one", true, preface[:20] + "\n" + preface[21:] + all, outcome{code: protocol, down: true}},
		{"two", true, preface + preface + all, outcome{code: frameSize, down: true}},
		{"one that isn't wanted", false, preface + all, outcome{code: frameSize, down: true}},
	}
}

func TestAtOnceAndByteByByte(t *testing.T) {
	for _, x := range streams() {
		t.Run(x.name, func(t *testing.T) {
			same(t, "at once", outcomeOf(t, x.wants, x.bytes), x.want)
			for size := 1; size <= len(x.bytes); size++ {
				same(t, fmt.Sprintf("pieces of %d", size), outcomeOf(t, x.wants, cutInto(x.bytes, size)...), x.want)
			}
		})
	}
}

func TestCutAnywhereInTwoAndThree(t *testing.T) {
	for _, x := range streams() {
		t.Run(x.name, func(t *testing.T) {
			for i := range len(x.bytes) + 1 {
				same(t, fmt.Sprintf("cut at %d", i), outcomeOf(t, x.wants, x.bytes[:i], x.bytes[i:]), x.want)
				for j := i; j <= len(x.bytes); j++ {
					same(t, fmt.Sprintf("cut at %d and %d", i, j), outcomeOf(t, x.wants, x.bytes[:i], x.bytes[i:j], x.bytes[j:]), x.want)
				}
			}
		})
	}
}

// All ways in which a few bytes can be cut.
func TestAllWaysOfAFewBytes(t *testing.T) {
	a, b := of(0, 0, 1, ""), of(0, 0, 1, "x")
	for _, x := range []stream{
		{"a frame and a length that is too great", false, sent(a) + head(16385, 0, 0, 0)[:9], outcome{frames: []api.Frame{a}, code: frameSize, down: true}},
		{"a frame and a part of one", false, sent(b) + sent(b)[:7], outcome{frames: []api.Frame{b}, held: 7}},
		{"two frames", false, sent(a, a), outcome{frames: []api.Frame{a, a}}},
		{"a part of the preface", true, preface[:17], outcome{held: 17}},
		{"another one", true, preface[:14] + "\n\n\n", outcome{code: protocol, down: true}},
	} {
		t.Run(x.name, func(t *testing.T) {
			for cuts := range 1 << (len(x.bytes) - 1) {
				pieces := []string{}
				begin := 0
				for at := 1; at < len(x.bytes); at++ {
					if cuts>>(at-1)&1 == 1 {
						pieces = append(pieces, x.bytes[begin:at])
						begin = at
					}
				}
				pieces = append(pieces, x.bytes[begin:])
				same(t, fmt.Sprint(pieces), outcomeOf(t, x.wants, pieces...), x.want)
			}
		})
	}
}

// cutAtRandom are pieces of a text, some of them empty.
func cutAtRandom(r *rand.Rand, s string) []string {
	pieces := []string{}
	for most := 1 + r.Intn(1<<r.Intn(16)); s != ""; {
		size := min(r.Intn(most+1), len(s))
		pieces = append(pieces, s[:size])
		s = s[size:]
	}
	return pieces
}

func TestGreatFramesCutAnywhere(t *testing.T) {
	r := rand.New(rand.NewSource(21))
	list := []api.Frame{emptySettings, of(0, 0, 1, filler(16384)), of(1, 4, 3, filler(16383)), of(0, 1, 1, filler(5000))}
	for _, x := range []stream{
		{"whole", true, preface + sent(list...), outcome{frames: list}},
		{"as much as may be held", false, sent(list...) + sent(list[1])[:mostHeld], outcome{frames: list, held: mostHeld}},
		{"a length that is too great", true, preface + sent(list...) + head(16385, 0, 0, 1) + filler(16385), outcome{frames: list, code: frameSize, down: true}},
	} {
		t.Run(x.name, func(t *testing.T) {
			same(t, "at once", outcomeOf(t, x.wants, x.bytes), x.want)
			same(t, "byte by byte", outcomeOf(t, x.wants, cutInto(x.bytes, 1)...), x.want)
			for i := range x.bytes {
				if i%61 == 0 || i > len(x.bytes)-30 {
					same(t, fmt.Sprintf("cut at %d", i), outcomeOf(t, x.wants, x.bytes[:i], x.bytes[i:]), x.want)
				}
			}
			for range 300 {
				same(t, "at random", outcomeOf(t, x.wants, cutAtRandom(r, x.bytes)...), x.want)
			}
		})
	}
}
