package feed_test

import (
	"slices"
	"strings"
	"testing"

	"nuncio/api"
	"nuncio/feed"
)

// P15.1 and P15.2: frames that are whole, and those that aren't.

// both calls a test with a feed that had the preface, and with one that wants none, as often as it asks for one.
func both(t *testing.T, test func(t *testing.T, some func() *feed.Feed)) {
	for _, wants := range []bool{true, false} {
		name := "no preface"
		if wants {
			name = "preface"
		}
		t.Run(name, func(t *testing.T) {
			test(t, func() *feed.Feed { return behind(t, wants) })
		})
	}
}

func TestFramesInOnePieceEach(t *testing.T) {
	both(t, func(t *testing.T, some func() *feed.Feed) {
		f := some()
		for _, one := range []api.Frame{
			emptySettings, of(4, 0, 0, "\x00\x03\x00\x00\x00\x08"), of(3, 0, 1, "\x00\x00\x00\x08"), of(0, 1, maxStream, "hi"), of(0xab, 0xcd, 0x12345678, "\xff"),
			// What is wrong with one by itself plays no part.
			of(0, 0, 0, "x"), of(6, 0, 0, "1234567"), of(5, 255, 1, ""), of(8, 0, 0, "\x00\x00\x00\x00"), of(9, 0, 5, "block"), of(255, 255, maxStream, preface),
		} {
			adds(t, some(), sent(one), 0, one)
			adds(t, f, sent(one), 0, one)
		}
	})
}

func TestEachTypeAndEachFlag(t *testing.T) {
	f := feed.New(false)
	for n := range 256 {
		for _, stream := range []uint32{0, 1, maxStream} {
			for _, one := range []api.Frame{of(n, 0, stream, ""), of(n, 255-n, stream, "abc"), of(0, n, stream, "ab")} {
				adds(t, f, sent(one), 0, one)
			}
		}
	}
}

// The highest bit of a stream plays no part.
func TestStreams(t *testing.T) {
	f := feed.New(false)
	for bit := range 32 {
		for _, stream := range []uint32{1 << bit, ^uint32(1 << bit)} {
			adds(t, f, head(2, 0, 0, stream)+"ab", 0, of(0, 0, stream%(1<<31), "ab"))
		}
	}
}

func TestLengths(t *testing.T) {
	all := filler(16384)
	both(t, func(t *testing.T, some func() *feed.Feed) {
		for _, size := range []int{0, 1, 2, 8, 9, 23, 24, 255, 256, 257, 8192, 16383, 16384} {
			one := of(0, 0, 1, all[:size])
			s := sent(one)
			adds(t, some(), s, 0, one)
			adds(t, some(), s+"\x00\x01", 2, one)
			adds(t, some(), s[:len(s)-1], len(s)-1)
			if size == 0 {
				continue
			}
			f := some()
			adds(t, f, s[:9], 9)
			adds(t, f, s[9:], 0, one)
			f = some()
			adds(t, f, s[:len(s)-1], len(s)-1)
			adds(t, f, s[len(s)-1:]+"\x00", 1, one)
		}
	})
}

// A length above 16384: as soon as nine bytes are there, and not ahead of that, whatever they are and follows.
func TestLengthsThatAreTooGreat(t *testing.T) {
	lengths := []int{16385, 16386, 16640, 32768, 49152, 65535, 65536, 65537, 0x505249, 1<<24 - 1}
	for bit := 15; bit < 24; bit++ {
		lengths = append(lengths, 1<<bit)
	}
	both(t, func(t *testing.T, some func() *feed.Feed) {
		for _, size := range lengths {
			for _, kind := range []int{0, 1, 4, 9, 77} {
				s := head(size, kind, 0, 1)
				for at := range 9 {
					f := some()
					adds(t, f, s[:at], at)
					fails(t, f, s[at:], frameSize)
					stays(t, f)
				}
				f := some()
				for at := range 8 {
					adds(t, f, s[at:at+1], at+1)
				}
				fails(t, f, s[8:], frameSize)
				fails(t, some(), s+settings, frameSize)
				fails(t, some(), s+anything, frameSize)
			}
		}
		fails(t, some(), head(16385, 0, 0, 1)+filler(16385)+settings, frameSize)
		fails(t, some(), head(65536, 0, 0, 1)+filler(65536)+settings, frameSize)
	})
}

// Frames that are whole ahead of it are answered with the code, in its own piece; those of earlier ones came there.
func TestFramesAheadOfALengthThatIsTooGreat(t *testing.T) {
	ahead := []api.Frame{emptySettings, of(0, 1, 5, "body"), of(6, 0, 0, "12345678"), of(1, 4, 3, filler(16384))}
	for n := range len(ahead) + 1 {
		list := ahead[:n]
		wrong := head(16385, 0, 0, 1)
		both(t, func(t *testing.T, some func() *feed.Feed) {
			fails(t, some(), sent(list...)+wrong, frameSize, list...)
			f := some()
			fails(t, f, sent(list...)+wrong+sent(ahead...), frameSize, list...)
			stays(t, f)
			for at := range 9 {
				f = some()
				adds(t, f, sent(list...)+wrong[:at], at, list...)
				fails(t, f, wrong[at:]+settings, frameSize)
				stays(t, f)
			}
			if n == 0 {
				return
			}
			// The last byte of those ahead comes with it.
			all := sent(list...)
			f = some()
			adds(t, f, all[:len(all)-1], 8+len(list[n-1].Data), list[:n-1]...)
			fails(t, f, all[len(all)-1:]+wrong, frameSize, list[n-1])
			stays(t, f)
		})
	}
}

func TestAFrameCutAtEachByte(t *testing.T) {
	for _, size := range []int{0, 1, 2, 9, 40, 300, 16384} {
		one := of(0, 1, 3, filler(size))
		s := sent(one)
		both(t, func(t *testing.T, some func() *feed.Feed) {
			f := some()
			for at := range s {
				adds(t, f, s[:at], at)
				adds(t, f, s[at:], 0, one)
				if t.Failed() {
					t.FailNow()
				}
			}
		})
	}
}

func TestAFrameInMany(t *testing.T) {
	for _, size := range []int{0, 1, 2, 9, 40, 300, 16384} {
		one := of(0, 1, 3, filler(size))
		s := sent(one)
		both(t, func(t *testing.T, some func() *feed.Feed) {
			f := some()
			for range 3 {
				for at := range len(s) - 1 {
					adds(t, f, s[at:at+1], at+1)
				}
				adds(t, f, s[len(s)-1:], 0, one)
				if t.Failed() {
					t.FailNow()
				}
			}
		})
	}
}

func TestMoreFramesInOnePiece(t *testing.T) {
	for _, size := range []int{0, 1, 9, 300} {
		for count := range 20 {
			var list []api.Frame
			for i := range count {
				list = append(list, of(i, 3*i, uint32(i*i), filler(size)))
			}
			both(t, func(t *testing.T, some func() *feed.Feed) {
				f := some()
				adds(t, f, sent(list...), 0, list...)
				// The beginning of one more stays, and is its beginning when more comes.
				more := of(77, 1, 9, "more")
				s := sent(more)
				for at := range s {
					adds(t, f, sent(list...)+s[:at], at, list...)
					adds(t, f, s[at:]+sent(list...), 0, append([]api.Frame{more}, list...)...)
				}
			})
		}
	}
}

// The end of one and the beginning of the next are in one piece.
func TestPiecesAcrossFrames(t *testing.T) {
	list := []api.Frame{emptySettings, of(0, 0, 1, "a"), of(6, 1, 0, "12345678"), of(1, 4, 3, filler(60))}
	f := feed.New(false)
	for _, one := range list {
		for _, next := range list {
			s, more := sent(one), sent(next)
			for i := range s {
				for j := range more {
					adds(t, f, s[:i], i)
					adds(t, f, s[i:]+more[:j], j, one)
					adds(t, f, more[j:], 0, next)
				}
			}
		}
	}
}

// Held is at most 9 and 16384 less one, or 23 of the preface.
func TestTheMostThatIsHeld(t *testing.T) {
	f := feed.New(true)
	adds(t, f, preface[:23], 23)
	f = behind(t, true)
	s := sent(of(0, 0, 1, filler(16384)))
	for range 3 {
		adds(t, f, s[:mostHeld], mostHeld)
		adds(t, f, s[mostHeld:], 0, of(0, 0, 1, filler(16384)))
	}
	// With as much as there may be of two.
	adds(t, f, s+s[:mostHeld], mostHeld, of(0, 0, 1, filler(16384)))
	adds(t, f, s[mostHeld:]+s[:mostHeld], mostHeld, of(0, 0, 1, filler(16384)))
	fails(t, f, s[mostHeld:]+head(16385, 0, 0, 1), frameSize, of(0, 0, 1, filler(16384)))
}

func TestManyFramesInOnePiece(t *testing.T) {
	const count = 200000
	f := feed.New(true)
	list, code := f.Add(preface + strings.Repeat(settings, count) + settings[:4])
	if len(list) != count || code != fine || slices.ContainsFunc(list, func(one api.Frame) bool { return one != emptySettings }) {
		t.Errorf("%d frames, %d", len(list), code)
	}
	is(t, f, 4, false)
}

// Byte by byte, many times as many as may be held.
func TestManyBytesOneByOne(t *testing.T) {
	f := feed.New(false)
	one := of(0, 0, 1, filler(16384))
	s := sent(one)
	for range 60 {
		for at := range len(s) - 1 {
			if list, code := f.Add(s[at : at+1]); len(list) != 0 || code != fine || f.Held() != at+1 {
				t.Fatalf("byte %d: %s, %d, %d held", at, toldFrames(list), code, f.Held())
			}
		}
		adds(t, f, s[len(s)-1:], 0, one)
	}
}
