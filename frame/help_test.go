package frame_test

import (
	"encoding/hex"
	"fmt"
	"strings"
	"testing"
	"unsafe"

	"nuncio/api"
	"nuncio/frame"
)

// maxStream is the greatest stream.
const maxStream = 1<<31 - 1

// of is a frame.
func of(kind, flags int, stream uint32, data string) api.Frame {
	return api.Frame{Type: byte(kind), Flags: byte(flags), Stream: stream, Data: data}
}

// bytes are those of hexadecimal digits, with spaces between them.
func bytes(digits string) string {
	b, err := hex.DecodeString(strings.ReplaceAll(digits, " ", ""))
	if err != nil {
		panic(err)
	}
	return string(b)
}

// char is a text of one byte.
func char(n int) string { return string([]byte{byte(n)}) }

// four are the four bytes of a number.
func four(n uint32) string { return bytes(fmt.Sprintf("%08x", n)) }

// head is what stands ahead of a payload of so many bytes. (The stream has all of its bits.)
func head(size, kind, flags int, stream uint32) string {
	return bytes(fmt.Sprintf("%06x%02x%02x%08x", size, kind, flags, stream))
}

// filler is a text of so many bytes, of which none is as those about it.
func filler(n int) string {
	var b strings.Builder
	for i := range n {
		b.WriteByte(byte(i*37 + i>>8 + 1))
	}
	return b.String()
}

// parses fails if a text begins with another frame than this one of so many bytes.
func parses(t *testing.T, s string, want api.Frame, size int) {
	t.Helper()
	if f, n, e := frame.Parse(s); f != want || n != size || e != api.OK {
		t.Errorf("Parse(%s) = %s, %d, %d, want %s, %d", told(s), toldFrame(f), n, e, toldFrame(want), size)
	}
}

// none fails if the answer is another one than an error and zeros.
func none(t *testing.T, s string, want api.Errno) {
	t.Helper()
	if f, n, e := frame.Parse(s); f != (api.Frame{}) || n != 0 || e != want {
		t.Errorf("Parse(%s) = %s, %d, %d, want the error %d", told(s), toldFrame(f), n, e, want)
	}
}

// prints fails if a frame has other bytes than these.
func prints(t *testing.T, f api.Frame, want string) {
	t.Helper()
	if s, e := frame.Print(f); s != want || e != api.OK {
		t.Errorf("Print(%s) = %s, %d, want %s", toldFrame(f), told(s), e, told(want))
	}
}

// unprinted fails if the answer is another one than an error and no bytes.
func unprinted(t *testing.T, f api.Frame, want api.Errno) {
	t.Helper()
	if s, e := frame.Print(f); s != "" || e != want {
		t.Errorf("Print(%s) = %s, %d, want the error %d", toldFrame(f), told(s), e, want)
	}
}

// judged fails if something else is wrong with a frame.
func judged(t *testing.T, f api.Frame, scope int, code uint32) {
	t.Helper()
	if s, c := frame.Wrong(f); s != scope || c != code {
		t.Errorf("Wrong(%s) = %d, %d, want %d, %d", toldFrame(f), s, c, scope, code)
	}
}

// contains fails if a frame has another content.
func contains(t *testing.T, f api.Frame, want string) {
	t.Helper()
	if got := frame.Content(f); got != want {
		t.Errorf("Content(%s) = %s, want %s", toldFrame(f), told(got), told(want))
	}
}

// is fails if a frame is another one.
func is(t *testing.T, got, want api.Frame) {
	t.Helper()
	if got != want {
		t.Errorf("%s, want %s", toldFrame(got), toldFrame(want))
	}
}

// apart: have two texts no memory in common?
func apart(a, b string) bool {
	if a == "" || b == "" {
		return true
	}
	x, y := uintptr(unsafe.Pointer(unsafe.StringData(a))), uintptr(unsafe.Pointer(unsafe.StringData(b)))
	return x+uintptr(len(a)) <= y || y+uintptr(len(b)) <= x
}

// told is a text as a failure tells it, a long one by its first bytes.
func told(s string) string {
	if len(s) <= 40 {
		return fmt.Sprintf("% x", s)
	}
	return fmt.Sprintf("% x .. (%d bytes)", s[:40], len(s))
}

// toldFrame is that for a frame.
func toldFrame(f api.Frame) string {
	return fmt.Sprintf("{%d %d %#x %s}", f.Type, f.Flags, f.Stream, told(f.Data))
}
