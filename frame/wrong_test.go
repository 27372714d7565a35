package frame_test

import (
	"strings"
	"testing"

	"nuncio/api"
)

// P14.2: Wrong, type by type.

const (
	protocol  = 1
	frameSize = 6
)

// fine fails if something is wrong with a frame.
func fine(t *testing.T, f api.Frame) {
	t.Helper()
	judged(t, f, 0, 0)
}

// flagsOf are all flags of which the bits of a mask are those of a number.
func flagsOf(mask, bits int) []int {
	var all []int
	for flags := range 256 {
		if flags&mask == bits {
			all = append(all, flags)
		}
	}
	return all
}

// streams are some that aren't 0.
func streams() []uint32 { return []uint32{1, 2, 3, 255, 256, 65536, 1 << 24, 1 << 30, maxStream} }

func TestWrongOfTheExamples(t *testing.T) {
	judged(t, of(8, 0, 0, "\x00\x00\x00\x00"), 2, protocol)
	fine(t, of(4, 0, 0, ""))
	fine(t, of(3, 0, 1, "\x00\x00\x00\x08"))
}

func TestWrongData(t *testing.T) {
	for flags := range 256 {
		for _, data := range []string{"", "\x00", "\x01", "\x01\x00", "\xff", "abc"} {
			judged(t, of(0, flags, 0, data), 2, protocol)
		}
	}
	for _, stream := range streams() {
		for _, flags := range flagsOf(8, 0) {
			// The flag of a priority plays no part, nor does what the bytes are.
			for _, data := range []string{"", "\x00", "\xff", "x", four(stream), four(stream) + "w", filler(300)} {
				fine(t, of(0, flags, stream, data))
			}
		}
		for _, flags := range flagsOf(8, 8) {
			judged(t, of(0, flags, stream, ""), 2, frameSize)
			for _, size := range []int{0, 1, 2, 5, 6, 7, 100, 254, 255, 256} {
				for _, pad := range []int{0, 1, 2, 5, 6, 7, 99, 100, 101, 254, 255} {
					f := of(0, flags, stream, char(pad)+strings.Repeat("p", size))
					if pad > size {
						judged(t, f, 2, protocol)
					} else {
						fine(t, f)
					}
				}
			}
		}
	}
}

func TestWrongHeaders(t *testing.T) {
	for flags := range 256 {
		for _, data := range []string{"", "\x00", "\xff", "\x00\x00\x00\x00\x00", "\x00\x00\x00\x00\x00\x00", "\xff\x00\x00\x00\x00\x00"} {
			judged(t, of(1, flags, 0, data), 2, protocol)
		}
	}
	for _, stream := range streams() {
		for _, flags := range flagsOf(40, 0) {
			for _, data := range []string{"", "\x00", "\xff", four(stream), four(stream) + "w", "\x00" + four(stream) + "w", filler(300)} {
				fine(t, of(1, flags, stream, data))
			}
		}
		for _, flags := range flagsOf(40, 8) {
			judged(t, of(1, flags, stream, ""), 2, frameSize)
			fine(t, of(1, flags, stream, "\x00"))
			fine(t, of(1, flags, stream, "\x00"+four(stream)+"w"))
			fine(t, of(1, flags, stream, "\x05"+four(stream)+"w"))
			judged(t, of(1, flags, stream, "\x01"), 2, protocol)
			judged(t, of(1, flags, stream, "\x06"+four(stream)+"w"), 2, protocol)
		}
		for _, flags := range flagsOf(40, 32) {
			for size := range 5 {
				judged(t, of(1, flags, stream, strings.Repeat("\x00", size)), 2, frameSize)
				judged(t, of(1, flags, stream, (four(stream) + "w")[:size]), 2, frameSize)
			}
			for size := 5; size < 20; size++ {
				fine(t, of(1, flags, stream, strings.Repeat("\x00", size)))
			}
		}
		for _, flags := range flagsOf(40, 40) {
			for size := range 6 {
				judged(t, of(1, flags, stream, strings.Repeat("\x00", size)), 2, frameSize)
				judged(t, of(1, flags, stream, strings.Repeat("\xff", size)), 2, frameSize)
				judged(t, of(1, flags, stream, ("\x00" + four(stream) + "w")[:size]), 2, frameSize)
			}
			for size := range 20 {
				priority := "\x00\x00\x00\x00w"
				fine(t, of(1, flags, stream, "\x00"+priority+strings.Repeat("\xff", size)))
				fine(t, of(1, flags, stream, char(size)+priority+strings.Repeat("\xff", size)))
				judged(t, of(1, flags, stream, char(size+1)+priority+strings.Repeat("\xff", size)), 2, protocol)
				judged(t, of(1, flags, stream, char(size+5)+priority+strings.Repeat("\xff", size)), 2, protocol)
				judged(t, of(1, flags, stream, char(size+6)+priority+strings.Repeat("\xff", size)), 2, protocol)
				judged(t, of(1, flags, stream, "\xff"+priority+strings.Repeat("\xff", size)), 2, protocol)
			}
		}
	}
}

// Headers and Priority, with padding and without.
func TestWrongAsItDependsOnItself(t *testing.T) {
	for _, stream := range streams() {
		for _, x := range []struct {
			kind, flags int
			ahead       string
			behind      string
		}{
			{1, 32, "", ""}, {1, 36, "", "block"}, {1, 0xf7, "", "block"},
			{1, 40, "\x00", ""}, {1, 40, "\x00", "block"}, {1, 44, "\x02", "xx"}, {1, 45, "\x03", "blockxxx"}, {1, 255, "\x03", "blockxxx"},
			{2, 0, "", ""}, {2, 8, "", ""}, {2, 32, "", ""}, {2, 40, "", ""}, {2, 255, "", ""},
		} {
			for _, weight := range []string{"\x00", "\x01", "\xff"} {
				itself := func(n uint32) api.Frame { return of(x.kind, x.flags, stream, x.ahead+four(n)+weight+x.behind) }
				judged(t, itself(stream), 1, protocol)
				judged(t, itself(1<<31|stream), 1, protocol)
				for bit := range 31 {
					fine(t, itself(stream^1<<bit))
					fine(t, itself(stream^1<<bit|1<<31))
				}
				if stream < maxStream {
					fine(t, itself(stream+1))
				}
				fine(t, itself(stream-1))
				fine(t, itself(0))
				fine(t, itself(1<<31))
			}
		}
	}
}

// What ends the connection is told ahead of that, of Headers.
func TestWrongAsItDependsOnItselfAndMore(t *testing.T) {
	judged(t, of(1, 32, 0, "\x00\x00\x00\x00w"), 2, protocol)
	judged(t, of(1, 32, 0, "\x80\x00\x00\x00w"), 2, protocol)
	judged(t, of(1, 32, 1, "\x00\x00\x00\x01"), 2, frameSize)
	judged(t, of(1, 40, 1, "\x00\x00\x00\x00\x01"), 2, frameSize)
	judged(t, of(1, 40, 1, "\x01\x00\x00\x00\x01w"), 2, protocol)
	judged(t, of(1, 40, 1, "\x04\x00\x00\x00\x01wxxx"), 2, protocol)
	judged(t, of(1, 40, 1, "\x03\x00\x00\x00\x01wxxx"), 1, protocol)
	// Of a stream 0 that depends on itself as well.
	judged(t, of(2, 0, 0, "\x00\x00\x00\x00w"), 2, protocol)
	// Of the byte that tells of padding four would be the stream.
	fine(t, of(1, 40, 1, "\x00\x00\x00\x01\x00wxx"))
	fine(t, of(1, 32, 1, "\x00\x00\x00\x00\x01w"))
	judged(t, of(1, 40, 256, "\x00\x00\x00\x01\x00w"), 1, protocol)
}

func TestWrongPriority(t *testing.T) {
	for flags := range 256 {
		for _, stream := range streams() {
			for size := range 16 {
				f := of(2, flags, stream, (strings.Repeat("\x00", 4) + filler(12))[:size])
				if size == 5 {
					fine(t, f)
				} else {
					judged(t, f, 1, frameSize)
				}
				// Of another length than five it plays no part that it depends on itself.
				if f = of(2, flags, stream, (four(stream) + filler(12))[:size]); size == 5 {
					judged(t, f, 1, protocol)
				} else {
					judged(t, f, 1, frameSize)
				}
			}
			judged(t, of(2, flags, stream, filler(261)), 1, frameSize)
		}
		for size := range 16 {
			judged(t, of(2, flags, 0, filler(size)), 2, protocol)
		}
	}
}

func TestWrongReset(t *testing.T) {
	for flags := range 256 {
		for size := range 16 {
			for _, data := range []string{strings.Repeat("\x00", size), strings.Repeat("\xff", size), filler(size)} {
				judged(t, of(3, flags, 0, data), 2, protocol)
				for _, stream := range streams() {
					if f := of(3, flags, stream, data); size == 4 {
						fine(t, f)
					} else {
						judged(t, f, 2, frameSize)
					}
				}
			}
		}
		judged(t, of(3, flags, 1, filler(260)), 2, frameSize)
	}
}

func TestWrongSettings(t *testing.T) {
	for flags := range 256 {
		ack := flags%2 == 1
		for size := range 40 {
			// What the settings are plays no part.
			for _, data := range []string{strings.Repeat("\x00", size), strings.Repeat("\xff", size), filler(size)} {
				f := of(4, flags, 0, data)
				if ack && size > 0 || size%6 > 0 {
					judged(t, f, 2, frameSize)
				} else {
					fine(t, f)
				}
				for _, stream := range streams() {
					judged(t, of(4, flags, stream, data), 2, protocol)
				}
			}
		}
	}
	for _, size := range []int{16380, 16386} {
		fine(t, of(4, 0, 0, filler(size)))
		judged(t, of(4, 1, 0, filler(size)), 2, frameSize)
		judged(t, of(4, 0, 0, filler(size+4)), 2, frameSize)
	}
}

func TestWrongPush(t *testing.T) {
	for flags := range 256 {
		for size := range 16 {
			judged(t, of(5, flags, 0, filler(size)), 2, protocol)
			for _, stream := range streams() {
				judged(t, of(5, flags, stream, filler(size)), 2, protocol)
			}
		}
	}
}

func TestWrongPing(t *testing.T) {
	for flags := range 256 {
		for size := range 20 {
			f := of(6, flags, 0, filler(size))
			if size == 8 {
				fine(t, f)
			} else {
				judged(t, f, 2, frameSize)
			}
			for _, stream := range streams() {
				judged(t, of(6, flags, stream, filler(size)), 2, protocol)
			}
		}
		judged(t, of(6, flags, 0, filler(264)), 2, frameSize)
	}
}

func TestWrongGoaway(t *testing.T) {
	for flags := range 256 {
		for _, size := range []int{0, 1, 2, 3, 4, 5, 6, 7, 8, 9, 10, 12, 16, 255, 256, 257, 264, 16384} {
			f := of(7, flags, 0, filler(size))
			if size >= 8 {
				fine(t, f)
			} else {
				judged(t, f, 2, frameSize)
			}
			for _, stream := range streams() {
				judged(t, of(7, flags, stream, f.Data), 2, protocol)
			}
		}
	}
}

func TestWrongWindow(t *testing.T) {
	for flags := range 256 {
		for size := range 16 {
			if size == 4 {
				continue
			}
			for _, data := range []string{strings.Repeat("\x00", size), filler(size)} {
				judged(t, of(8, flags, 0, data), 2, frameSize)
				for _, stream := range streams() {
					judged(t, of(8, flags, stream, data), 2, frameSize)
				}
			}
		}
		for _, n := range []uint32{0, 1 << 31} {
			judged(t, of(8, flags, 0, four(n)), 2, protocol)
			for _, stream := range streams() {
				judged(t, of(8, flags, stream, four(n)), 1, protocol)
			}
		}
		for bit := range 31 {
			for _, n := range []uint32{1 << bit, 1<<bit | 1<<31, maxStream - 1<<bit, 1<<32 - 1 - 1<<bit} {
				fine(t, of(8, flags, 0, four(n)))
				for _, stream := range streams() {
					fine(t, of(8, flags, stream, four(n)))
				}
			}
		}
		judged(t, of(8, flags, 1, strings.Repeat("\x00", 260)), 2, frameSize)
	}
}

func TestWrongContinuation(t *testing.T) {
	for flags := range 256 {
		for _, data := range []string{"", "\x00", "\xff", "\x00\x00\x00\x01w", filler(300)} {
			judged(t, of(9, flags, 0, data), 2, protocol)
			for _, stream := range streams() {
				fine(t, of(9, flags, stream, data))
			}
		}
	}
}

func TestNothingWrongOfOtherTypes(t *testing.T) {
	for kind := 10; kind < 256; kind++ {
		for flags := range 256 {
			for _, data := range []string{"", "\x00", "\xff", "\x00\x00\x00\x00", "\x00\x00\x00\x01w", "abcdefgh"} {
				fine(t, of(kind, flags, 0, data))
				fine(t, of(kind, flags, 1, data))
				fine(t, of(kind, flags, maxStream, data))
			}
		}
	}
}

// A payload may be longer than one that is sent: that is nothing that is wrong with it by itself.
func TestNothingWrongWithALongPayload(t *testing.T) {
	all := strings.Repeat("\x00", 70000)
	fine(t, of(0, 0, 1, all))
	fine(t, of(0, 8, 1, "\xff"+all))
	fine(t, of(1, 40, 1, "\xff"+all))
	fine(t, of(9, 0, 1, all))
	fine(t, of(7, 0, 0, all))
	fine(t, of(77, 0, 0, all))
}
