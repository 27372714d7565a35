package frame_test

import (
	"strings"
	"testing"

	"nuncio/frame"
)

// P14.2: Content.

func TestContentOfData(t *testing.T) {
	for _, stream := range streams() {
		for _, flags := range flagsOf(8, 0) {
			for _, data := range []string{"", "a", "\x00", "\x01ab", "\x00\x00\x00\x01\x07ab", filler(300)} {
				contains(t, of(0, flags, stream, data), data)
			}
		}
		for _, flags := range flagsOf(8, 8) {
			for _, content := range []string{"", "a", "\x00\x01", "\x00\x00\x00\x01\x07ab", filler(300)} {
				for _, pad := range []int{0, 1, 2, 7, 254, 255} {
					contains(t, of(0, flags, stream, char(pad)+content+strings.Repeat("\x00", pad)), content)
					// What the padding is plays no part.
					contains(t, of(0, flags, stream, char(pad)+content+filler(pad)), content)
				}
			}
		}
	}
}

func TestContentOfHeaders(t *testing.T) {
	for _, stream := range []uint32{1, 3, maxStream} {
		for _, content := range []string{"", "b", "\x02block", "\x00\x00\x00\x01\x07ab", filler(300)} {
			for _, flags := range flagsOf(40, 0) {
				contains(t, of(1, flags, stream, content), content)
			}
			for _, pad := range []int{0, 1, 2, 5, 6, 254, 255} {
				padding := filler(pad)
				for _, flags := range flagsOf(40, 8) {
					contains(t, of(1, flags, stream, char(pad)+content+padding), content)
				}
				// That it depends on itself (the first two) is wrong with it by scope 1 alone.
				for _, n := range []uint32{stream, 1<<31 | stream, 0, stream - 1, 5, 1<<32 - 5} {
					for _, flags := range flagsOf(40, 40) {
						contains(t, of(1, flags, stream, char(pad)+four(n)+"\xff"+content+padding), content)
					}
				}
			}
			for _, n := range []uint32{stream, 1<<31 | stream, 0, stream - 1, 5, 1<<32 - 5} {
				for _, flags := range flagsOf(40, 32) {
					contains(t, of(1, flags, stream, four(n)+"\x00"+content), content)
				}
			}
		}
	}
}

// With which something is wrong by scope 2.
func TestContentOfWrongOnes(t *testing.T) {
	for _, data := range []string{"", "\x00", "\x00ab", "\x01", "\x01ab", "\x00\x00\x00\x01\x07", "\x02\x00\x00\x00\x01\x07abxx", filler(300)} {
		for flags := range 256 {
			// The stream is 0.
			contains(t, of(0, flags, 0, data), data)
			contains(t, of(1, flags, 0, data), data)
		}
	}
	for _, flags := range flagsOf(8, 8) {
		// More padding than what is left.
		for _, data := range []string{"\x01", "\x02a", "\x03ab", "\xff", "\xff" + filler(254)} {
			contains(t, of(0, flags, 1, data), data)
		}
		contains(t, of(0, flags, 1, ""), "")
	}
	for _, flags := range flagsOf(40, 8) {
		for _, data := range []string{"\x01", "\x02a", "\x03ab", "\xff", "\xff" + filler(254)} {
			contains(t, of(1, flags, 1, data), data)
		}
		contains(t, of(1, flags, 1, ""), "")
	}
	for size := range 6 {
		// Bytes of padding and priority that aren't there.
		for _, flags := range flagsOf(40, 40) {
			contains(t, of(1, flags, 1, "\x00\x00\x00\x00\x03w"[:size]), "\x00\x00\x00\x00\x03w"[:size])
		}
		for _, flags := range flagsOf(40, 32) {
			contains(t, of(1, flags, 1, "\x00\x00\x00\x03"[:min(size, 4)]), "\x00\x00\x00\x03"[:min(size, 4)])
		}
	}
	for _, flags := range flagsOf(40, 40) {
		for _, data := range []string{"\x01\x00\x00\x00\x03w", "\x02\x00\x00\x00\x03wx", "\x05\x00\x00\x00\x03wabcd", "\x06\x00\x00\x00\x01wabcd", "\xff\x00\x00\x00\x03w" + filler(254)} {
			contains(t, of(1, flags, 1, data), data)
		}
	}
}

func TestContentOfOtherTypes(t *testing.T) {
	for kind := 2; kind < 256; kind++ {
		for _, flags := range []int{0, 1, 4, 8, 32, 40, 255} {
			for _, data := range []string{"", "\x00", "\x00\x00\x00\x01", "\x01abx", "\x00\x00\x00\x01\x07", "\x00\x00\x00\x03\x07", "\x01\x00\x00\x00\x03\x07abx", "\x00\x03\x00\x00\x00\x08", "\x01bcdefgh"} {
				for _, stream := range []uint32{0, 1, maxStream} {
					contains(t, of(kind, flags, stream, data), data)
				}
			}
		}
	}
}

func TestContentOfALongPayload(t *testing.T) {
	all := filler(70000)
	contains(t, of(0, 0, 1, all), all)
	contains(t, of(0, 8, 1, "\xff"+all), all[:70000-255])
	contains(t, of(1, 40, 1, "\xff\x00\x00\x00\x01w"+all), all[:70000-255])
	contains(t, of(9, 40, 1, all), all)
}

func TestContentIsNewMemory(t *testing.T) {
	data := "\x02\x00\x00\x00\x03wsome content of it" + "xx"
	for kind := range 11 {
		for _, flags := range []int{0, 8, 32, 40} {
			for _, stream := range []uint32{0, 1, 3} {
				f := of(kind, flags, stream, data)
				a, b := frame.Content(f), frame.Content(f)
				if !apart(a, data) || !apart(a, b) {
					t.Errorf("the content of %s shares memory", toldFrame(f))
				}
			}
		}
	}
}
