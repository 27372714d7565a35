package frame_test

import (
	"fmt"
	"slices"
	"strings"
	"testing"

	"nuncio/api"
	"nuncio/frame"
)

// P14.3: Settings, Reset, Goaway, Window.

// numbers are some at which something changes.
func numbers() []uint32 {
	all := []uint32{0, 1, 2, 8, 0x01020304, 0x7f8081fe, 0x89abcdef, maxStream - 1, maxStream, 1 << 31, 1<<31 + 1, 1<<32 - 2, 1<<32 - 1}
	for bit := range 32 {
		all = append(all, 1<<bit, ^uint32(1<<bit))
	}
	return all
}

// cut is a number without its highest bit.
func cut(n uint32) uint32 { return n % (1 << 31) }

func TestSettings(t *testing.T) {
	is(t, frame.Settings(), of(4, 0, 0, ""))
	is(t, frame.Settings([]api.Setting{}...), of(4, 0, 0, ""))
	is(t, frame.Settings(api.Setting{ID: 3, Value: 8}), of(4, 0, 0, "\x00\x03\x00\x00\x00\x08"))
	is(t, frame.Settings(api.Setting{ID: 2}), of(4, 0, 0, "\x00\x02\x00\x00\x00\x00"))
	is(t, frame.Settings(api.Setting{}), of(4, 0, 0, "\x00\x00\x00\x00\x00\x00"))
	is(t, frame.Settings(api.Setting{ID: 0x0102, Value: 0x03040506}), of(4, 0, 0, "\x01\x02\x03\x04\x05\x06"))
	// In their order, any ones, and one more than once.
	is(t, frame.Settings(api.Setting{ID: 4, Value: 100}, api.Setting{ID: 4, Value: 200}, api.Setting{ID: 0xfffe, Value: 0xfffdfcfb}, api.Setting{ID: 1, Value: 1 << 31}, api.Setting{ID: 4, Value: 100}),
		of(4, 0, 0, bytes("0004 00000064  0004 000000c8  fffe fffdfcfb  0001 80000000  0004 00000064")))
}

func TestSettingsOfEachID(t *testing.T) {
	for id := range 65536 {
		is(t, frame.Settings(api.Setting{ID: uint16(id), Value: 77}), of(4, 0, 0, bytes(fmt.Sprintf("%04x", id))+"\x00\x00\x00\x4d"))
	}
}

// A value has all of its bits.
func TestSettingsOfValues(t *testing.T) {
	for _, n := range numbers() {
		for id := range 8 {
			is(t, frame.Settings(api.Setting{ID: uint16(id), Value: n}), of(4, 0, 0, "\x00"+char(id)+four(n)))
		}
	}
}

func TestManySettings(t *testing.T) {
	var list []api.Setting
	var want strings.Builder
	for i := range 100000 {
		list = append(list, api.Setting{ID: uint16(i * 7), Value: uint32(i) * 77777})
		want.WriteString(bytes(fmt.Sprintf("%04x%08x", uint16(i*7), uint32(i)*77777)))
	}
	for size := range 3000 {
		is(t, frame.Settings(list[:size]...), of(4, 0, 0, want.String()[:6*size]))
	}
	is(t, frame.Settings(list...), of(4, 0, 0, want.String()))
	// As many as there is room for in what is printed, and one more.
	prints(t, frame.Settings(list[:2730]...), head(16380, 4, 0, 0)+want.String()[:16380])
	unprinted(t, frame.Settings(list[:2731]...), api.ErrLong)
}

func TestSettingsLeavesItsList(t *testing.T) {
	room := make([]api.Setting, 10)
	for i := range room {
		room[i] = api.Setting{ID: uint16(i), Value: uint32(10 * i)}
	}
	before := slices.Clone(room)
	f := frame.Settings(room[2:4]...)
	if !slices.Equal(room, before) {
		t.Errorf("the list, or its spare room, is %v", room)
	}
	// What is done to the list later changes nothing.
	room[2].Value, room[3].ID = 999, 999
	is(t, f, of(4, 0, 0, "\x00\x02\x00\x00\x00\x14\x00\x03\x00\x00\x00\x1e"))
}

func TestReset(t *testing.T) {
	is(t, frame.Reset(1, 8), of(3, 0, 1, "\x00\x00\x00\x08"))
	is(t, frame.Reset(0x81020304, 0x85060708), of(3, 0, 0x01020304, "\x85\x06\x07\x08"))
	for _, stream := range numbers() {
		for _, code := range numbers() {
			is(t, frame.Reset(stream, code), of(3, 0, cut(stream), four(code)))
		}
	}
}

func TestGoaway(t *testing.T) {
	is(t, frame.Goaway(3, 1), of(7, 0, 0, "\x00\x00\x00\x03\x00\x00\x00\x01"))
	is(t, frame.Goaway(0x81020304, 0x85060708), of(7, 0, 0, "\x01\x02\x03\x04\x85\x06\x07\x08"))
	for _, last := range numbers() {
		for _, code := range numbers() {
			is(t, frame.Goaway(last, code), of(7, 0, 0, four(cut(last))+four(code)))
		}
	}
}

func TestWindow(t *testing.T) {
	is(t, frame.Window(5, 100), of(8, 0, 5, "\x00\x00\x00\x64"))
	is(t, frame.Window(0, 0), of(8, 0, 0, "\x00\x00\x00\x00"))
	is(t, frame.Window(0x81020304, 0x85060708), of(8, 0, 0x01020304, "\x05\x06\x07\x08"))
	for _, stream := range numbers() {
		for _, n := range numbers() {
			is(t, frame.Window(stream, n), of(8, 0, cut(stream), four(cut(n))))
		}
	}
}

// What is made so is right by itself, where the stream and the number may be such, and is printed.
func TestWhatIsMadeIsRight(t *testing.T) {
	for _, stream := range numbers() {
		for _, n := range numbers() {
			g := frame.Goaway(stream, n)
			fine(t, g)
			prints(t, g, head(8, 7, 0, 0)+four(cut(stream))+four(n))
			r := frame.Reset(stream, n)
			prints(t, r, head(4, 3, 0, cut(stream))+four(n))
			w := frame.Window(stream, n)
			prints(t, w, head(4, 8, 0, cut(stream))+four(cut(n)))
			if cut(stream) > 0 {
				fine(t, r)
			} else {
				judged(t, r, 2, protocol)
			}
			if cut(n) > 0 {
				fine(t, w)
			} else if cut(stream) > 0 {
				judged(t, w, 1, protocol)
			} else {
				judged(t, w, 2, protocol)
			}
		}
	}
	fine(t, frame.Settings())
	fine(t, frame.Settings(api.Setting{ID: 4, Value: 1<<32 - 1}, api.Setting{ID: 9}))
}
