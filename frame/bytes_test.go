package frame_test

import (
	"strings"
	"testing"

	"nuncio/api"
	"nuncio/frame"
)

// P14.1: Parse and Print.

func TestParseAndPrintOfExamples(t *testing.T) {
	for _, x := range []struct {
		bytes string
		f     api.Frame
	}{
		{"00 00 00 04 00 00 00 00 00", of(4, 0, 0, "")},
		{"00 00 06 04 00 00 00 00 00 00 03 00 00 00 08", of(4, 0, 0, "\x00\x03\x00\x00\x00\x08")},
		{"00 00 04 03 00 00 00 00 01 00 00 00 08", of(3, 0, 1, "\x00\x00\x00\x08")},
		{"00 00 02 00 01 7f ff ff ff 68 69", of(0, 1, maxStream, "hi")},
		{"00 00 08 06 01 00 00 00 00 01 02 03 04 05 06 07 08", of(6, 1, 0, "\x01\x02\x03\x04\x05\x06\x07\x08")},
		{"00 00 01 ab cd 12 34 56 78 ff", of(0xab, 0xcd, 0x12345678, "\xff")},
	} {
		parses(t, bytes(x.bytes), x.f, len(bytes(x.bytes)))
		prints(t, x.f, bytes(x.bytes))
	}
}

// Whatever is wrong with them by themselves.
func TestEachTypeAndFlag(t *testing.T) {
	for kind := range 256 {
		for flags := range 256 {
			for _, stream := range []uint32{0, 1, maxStream} {
				f := of(kind, flags, stream, "abc")
				s := head(3, kind, flags, stream) + "abc"
				parses(t, s, f, 12)
				prints(t, f, s)
			}
		}
	}
}

func TestEachBitOfAStream(t *testing.T) {
	for bit := range 31 {
		stream := uint32(1) << bit
		parses(t, head(0, 1, 4, stream), of(1, 4, stream, ""), 9)
		prints(t, of(1, 4, stream, ""), head(0, 1, 4, stream))
		stream = maxStream - stream
		parses(t, head(0, 1, 4, stream), of(1, 4, stream, ""), 9)
		prints(t, of(1, 4, stream, ""), head(0, 1, 4, stream))
	}
}

func TestParseWhateverTheHighestBit(t *testing.T) {
	for _, stream := range []uint32{0, 1, 2, 0x01020304, 1 << 30, maxStream - 1, maxStream} {
		for _, data := range []string{"", "x", "\xff\xff\xff\xff"} {
			f := of(8, 255, stream, data)
			parses(t, head(len(data), 8, 255, stream)+data, f, 9+len(data))
			parses(t, head(len(data), 8, 255, 1<<31|stream)+data, f, 9+len(data))
		}
	}
}

func TestParseTextsThatAreTooShort(t *testing.T) {
	for size := range 9 {
		none(t, strings.Repeat("\x00", size), api.ErrShort)
		// A length that is too great isn't told as long as the nine bytes aren't there.
		none(t, strings.Repeat("\xff", size), api.ErrShort)
		none(t, head(16385, 0, 0, 1)[:size], api.ErrShort)
		none(t, head(0, 4, 0, 0)[:size], api.ErrShort)
	}
	parses(t, strings.Repeat("\x00", 9), api.Frame{}, 9)
	none(t, strings.Repeat("\xff", 9), api.ErrLong)
}

// Of each length that three bytes tell, without a payload.
func TestParseEachLength(t *testing.T) {
	b := []byte(head(0, 0, 1, 3))
	for size := range 1 << 24 {
		b[0], b[1], b[2] = byte(size/65536), byte(size/256%256), byte(size%256)
		want := api.ErrLong
		switch {
		case size == 0:
			continue
		case size <= 16384:
			want = api.ErrShort
		}
		if f, n, e := frame.Parse(string(b)); f != (api.Frame{}) || n != 0 || e != want {
			t.Fatalf("a length of %d: %s, %d, %d, want the error %d", size, toldFrame(f), n, e, want)
		}
	}
}

// Of each length that may be, with the payload, and with that cut off by one byte.
func TestParseAndPrintEachLength(t *testing.T) {
	all := filler(16384)
	for size := range 16385 {
		s := head(size, 0, 1, 3) + all[:size]
		f := of(0, 1, 3, all[:size])
		parses(t, s, f, 9+size)
		prints(t, f, s)
		none(t, s[:len(s)-1], api.ErrShort)
		if t.Failed() {
			return
		}
	}
}

func TestParseAboutTheGreatestLength(t *testing.T) {
	all := filler(20000)
	most := head(16384, 9, 4, 7)
	f := of(9, 4, 7, all[:16384])
	parses(t, most+all[:16384], f, 16393)
	parses(t, most+all[:16385], f, 16393)
	parses(t, most+all, f, 16393)
	for _, size := range []int{0, 1, 9, 255, 256, 8192, 16374, 16375, 16382, 16383} {
		none(t, most+all[:size], api.ErrShort)
	}
	// A length that is too great is told whether the payload is there or not.
	for _, length := range []int{16385, 16386, 16640, 19999, 20000, 20001, 32768, 65535, 65536, 65537, 1 << 23, 1<<24 - 1} {
		for _, size := range []int{0, 1, 16383, 16384, 16385, 16386, 20000} {
			none(t, head(length, 9, 4, 7)+all[:size], api.ErrLong)
		}
	}
	none(t, head(1<<24-1, 0, 0, 1)+strings.Repeat("x", 1<<24), api.ErrLong)
}

// A length of all zeros but for one bit: each one has its value.
func TestEachBitOfALength(t *testing.T) {
	all := strings.Repeat("q", 16384)
	for bit := range 24 {
		if n := 1 << bit; n <= 16384 {
			parses(t, head(n, 77, 0, 5)+all, of(77, 0, 5, all[:n]), 9+n)
			prints(t, of(77, 0, 5, all[:n]), head(n, 77, 0, 5)+all[:n])
		} else {
			none(t, head(n, 77, 0, 5)+all, api.ErrLong)
		}
	}
}

func TestParseBytesBehind(t *testing.T) {
	for _, data := range []string{"", "a", "abcdefgh"} {
		for _, behind := range []string{"\x00", "\xff", "zz", head(0, 4, 0, 0), head(16385, 0, 0, 1), filler(40000)} {
			parses(t, head(len(data), 2, 3, 9)+data+behind, of(2, 3, 9, data), 9+len(data))
		}
	}
}

func TestPrintStreamsThatMayNotBe(t *testing.T) {
	for _, stream := range []uint32{0, 1, maxStream - 1, maxStream} {
		prints(t, of(0, 0, stream, "ab"), head(2, 0, 0, stream)+"ab")
	}
	for _, stream := range []uint32{1 << 31, 1<<31 + 1, 1<<31 + 2, 3 << 30, 1<<32 - 2, 1<<32 - 1} {
		for kind := range 12 {
			unprinted(t, of(kind, 0, stream, ""), api.ErrRange)
			unprinted(t, of(kind, 0, stream, "ab"), api.ErrRange)
			unprinted(t, of(kind, 0, stream, filler(16384)), api.ErrRange)
		}
	}
}

func TestPrintDataThatIsTooLong(t *testing.T) {
	all := strings.Repeat("abcdefg", 1<<24/7+10)
	for _, stream := range []uint32{0, 1, maxStream} {
		prints(t, of(0, 8, stream, all[:16384]), head(16384, 0, 8, stream)+all[:16384])
		for _, size := range []int{16385, 16386, 16640, 32768, 65535, 65536, 65537, 1<<24 - 1, 1 << 24, 1<<24 + 1} {
			unprinted(t, of(0, 8, stream, all[:size]), api.ErrLong)
		}
	}
	// A stream that may not be is told ahead of that.
	for _, size := range []int{16385, 1 << 24} {
		unprinted(t, of(0, 8, 1<<31, all[:size]), api.ErrRange)
		unprinted(t, of(0, 8, 1<<32-1, all[:size]), api.ErrRange)
	}
}

func TestParseAndPrintAreNewMemory(t *testing.T) {
	for _, size := range []int{1, 2, 8, 40, 16384} {
		data := filler(size)
		s := head(size, 0, 0, 1) + data
		for _, text := range []string{s, s + "behind"} {
			f, _, _ := frame.Parse(text)
			g, _, _ := frame.Parse(text)
			if !apart(f.Data, text) || !apart(f.Data, g.Data) {
				t.Errorf("%d bytes: a frame has a piece of what it was parsed of", size)
			}
		}
		f := of(0, 0, 1, data)
		a, _ := frame.Print(f)
		b, _ := frame.Print(f)
		if !apart(a, data) || !apart(a, b) {
			t.Errorf("%d bytes: what is printed shares memory", size)
		}
	}
}
