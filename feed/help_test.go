package feed_test

import (
	"encoding/hex"
	"fmt"
	"slices"
	"strings"
	"testing"
	"unsafe"

	"nuncio/api"
	"nuncio/feed"
)

const (
	// The codes, as RFC 9113 numbers them.
	fine      = 0
	protocol  = 1
	frameSize = 6
	maxStream = 1<<31 - 1
	// The most bytes of a frame, and the most that may be held of one that isn't whole.
	mostFrame = 9 + 16384
	mostHeld  = mostFrame - 1
)

// preface has the bytes that RFC 9113 tells as numbers.
var preface = bytes("505249202a20485454502f322e300d0a0d0a534d0d0a0d0a")

// settings are the bytes of a frame without settings, and emptySettings is the frame.
var (
	settings      = bytes("00 00 00 04 00 00 00 00 00")
	emptySettings = of(4, 0, 0, "")
)

// anything is as many bytes as two frames may have, and more.
var anything = filler(40000)

// of is a frame.
func of(kind, flags int, stream uint32, data string) api.Frame {
	return api.Frame{Type: byte(kind), Flags: byte(flags), Stream: stream, Data: data}
}

// bytes are those of hexadecimal digits, with spaces between them.
func bytes(digits string) string {
	b, err := hex.DecodeString(strings.ReplaceAll(digits, " ", ""))
	if err != nil {
		panic(err)
	}
	return string(b)
}

// char is a text of one byte.
func char(n int) string { return string([]byte{byte(n)}) }

// head is what stands ahead of a payload of so many bytes. (The stream has all of its bits.)
func head(size, kind, flags int, stream uint32) string {
	return bytes(fmt.Sprintf("%06x%02x%02x%08x", size, kind, flags, stream))
}

// sent are the bytes of frames.
func sent(list ...api.Frame) string {
	var b strings.Builder
	for _, f := range list {
		b.WriteString(head(len(f.Data), int(f.Type), int(f.Flags), f.Stream))
		b.WriteString(f.Data)
	}
	return b.String()
}

// filler is a text of so many bytes, of which none is as those about it.
func filler(n int) string {
	var b strings.Builder
	for i := range n {
		b.WriteByte(byte(i*37 + i>>8 + 1))
	}
	return b.String()
}

// behind is a feed that had the preface, if it wanted it, and holds nothing.
func behind(t *testing.T, wants bool) *feed.Feed {
	t.Helper()
	f := feed.New(wants)
	if wants {
		adds(t, f, preface, 0)
	}
	return f
}

// adds fails if bytes make other frames than these, something is wrong, or another number of them is held then.
func adds(t *testing.T, f *feed.Feed, s string, held int, want ...api.Frame) {
	t.Helper()
	list, code := f.Add(s)
	if code != fine || !slices.Equal(list, want) {
		t.Errorf("Add(%s) = %s, %d, want %s", told(s), toldFrames(list), code, toldFrames(want))
	}
	is(t, f, held, false)
}

// fails fails if bytes make other frames than these or another code, or the feed isn't down then.
func fails(t *testing.T, f *feed.Feed, s string, code uint32, want ...api.Frame) {
	t.Helper()
	list, c := f.Add(s)
	if c != code || !slices.Equal(list, want) {
		t.Errorf("Add(%s) = %s, %d, want %s, %d", told(s), toldFrames(list), c, toldFrames(want), code)
	}
	is(t, f, 0, true)
}

// stays fails if a feed that is down isn't so whatever comes.
func stays(t *testing.T, f *feed.Feed) {
	t.Helper()
	for _, s := range []string{"", "P", "X", preface, settings, preface + settings, head(16385, 0, 0, 1), anything, ""} {
		if list, code := f.Add(s); len(list) != 0 || code != fine {
			t.Errorf("down, Add(%s) = %s, %d", told(s), toldFrames(list), code)
		}
		is(t, f, 0, true)
	}
}

// is fails if a feed holds another number of bytes, or is down and shouldn't be, or isn't. Asked twice, since asking changes nothing.
func is(t *testing.T, f *feed.Feed, held int, down bool) {
	t.Helper()
	for range 2 {
		if f.Held() != held || f.Down() != down {
			t.Errorf("holds %d, down %t, want %d, %t", f.Held(), f.Down(), held, down)
		}
	}
}

// apart: have two texts no memory in common?
func apart(a, b string) bool {
	if a == "" || b == "" {
		return true
	}
	x, y := uintptr(unsafe.Pointer(unsafe.StringData(a))), uintptr(unsafe.Pointer(unsafe.StringData(b)))
	return x+uintptr(len(a)) <= y || y+uintptr(len(b)) <= x
}

// told is a text as a failure tells it, a long one by its first bytes.
func told(s string) string {
	if len(s) <= 40 {
		return fmt.Sprintf("% x", s)
	}
	return fmt.Sprintf("% x .. (%d bytes)", s[:40], len(s))
}

// toldFrames is that for frames.
func toldFrames(list []api.Frame) string {
	var b strings.Builder
	for i, f := range list {
		if i == 8 {
			fmt.Fprintf(&b, " .. (%d frames)", len(list))
			break
		}
		fmt.Fprintf(&b, " {%d %d %#x %s}", f.Type, f.Flags, f.Stream, told(f.Data))
	}
	return "[" + b.String() + " ]"
}
