package frame_test

import (
	"encoding/binary"
	"fmt"
	"math/rand"
	"strings"
	"testing"

	"nuncio/api"
	"nuncio/frame"
)

// P14.1 and P14.2 held against a model of them: the chapter's table, row by row.

// row is one of what may be wrong with frames of a type.
type row struct {
	kind  byte
	scope int
	code  uint32
	holds func(x look) bool
}

// look is what can be seen of a frame.
type look struct {
	size   int
	stream string
	flags  string
	data   string
	// Of what its flags tell ahead of a content, what is there; -1 and "" if it isn't.
	pad      int
	priority string
	rest     string
	lacks    bool
}

// flagged has a letter for each flag that plays a part.
func flagged(flags byte) string {
	s := ""
	for _, x := range []struct {
		value  byte
		letter string
	}{{1, "a"}, {8, "p"}, {32, "q"}} {
		if flags/x.value%2 == 1 {
			s += x.letter
		}
	}
	return s
}

// seen is what can be seen of a frame.
func seen(f api.Frame) look {
	x := look{size: len(f.Data), stream: string(binary.BigEndian.AppendUint32(nil, f.Stream)), flags: flagged(f.Flags), data: f.Data, pad: -1, rest: f.Data}
	if strings.Contains(x.flags, "p") && f.Type < 2 {
		if x.rest == "" {
			x.lacks = true
			return x
		}
		x.pad, x.rest = int(x.rest[0]), x.rest[1:]
	}
	if strings.Contains(x.flags, "q") && f.Type == 1 || f.Type == 2 {
		if len(x.rest) < 5 {
			x.lacks = true
			return x
		}
		x.priority, x.rest = x.rest[:5], x.rest[5:]
	}
	return x
}

const nowhere = "\x00\x00\x00\x00"

// itself: does it depend on itself?
func (x look) itself() bool {
	if x.priority == "" {
		return false
	}
	p := []byte(x.priority)
	p[0] %= 128
	return string(p[:4]) == x.stream
}

func (x look) nowhere() bool   { return x.stream == nowhere }
func (x look) somewhere() bool { return x.stream != nowhere }
func (x look) zero() bool      { return x.data == nowhere || x.data == "\x80\x00\x00\x00" }

// table are the chapter's rows, in the order in which they apply.
var table = []row{
	{0, 2, 1, look.nowhere},
	{0, 2, 6, func(x look) bool { return x.lacks }},
	{0, 2, 1, func(x look) bool { return x.pad >= x.size }},
	{1, 2, 1, look.nowhere},
	{1, 2, 6, func(x look) bool { return x.lacks }},
	{1, 2, 1, func(x look) bool { return x.pad > len(x.rest) }},
	{1, 1, 1, look.itself},
	{2, 2, 1, look.nowhere},
	{2, 1, 6, func(x look) bool { return x.size != 5 }},
	{2, 1, 1, look.itself},
	{3, 2, 1, look.nowhere},
	{3, 2, 6, func(x look) bool { return x.size != 4 }},
	{4, 2, 1, look.somewhere},
	{4, 2, 6, func(x look) bool { return strings.Contains(x.flags, "a") && x.data != "" }},
	{4, 2, 6, func(x look) bool { return !strings.Contains(x.flags, "a") && x.size/6*6 != x.size }},
	{5, 2, 1, func(look) bool { return true }},
	{6, 2, 1, look.somewhere},
	{6, 2, 6, func(x look) bool { return x.size != 8 }},
	{7, 2, 1, look.somewhere},
	{7, 2, 6, func(x look) bool { return x.size < 8 }},
	{8, 2, 6, func(x look) bool { return x.size != 4 }},
	{8, 2, 1, func(x look) bool { return x.zero() && x.nowhere() }},
	{8, 1, 1, look.zero},
	{9, 2, 1, look.nowhere},
}

// model is the row that applies (-1: none), what is wrong by that, and the content.
func model(f api.Frame) (n, scope int, code uint32, content string) {
	x := seen(f)
	n, content = -1, f.Data
	for i, r := range table {
		if r.kind == f.Type && r.holds(x) {
			n, scope, code = i, r.scope, r.code
			break
		}
	}
	if f.Type < 2 && scope < 2 {
		content = x.rest
		for range x.pad {
			content = content[:len(content)-1]
		}
	}
	return n, scope, code, content
}

// matches fails if Wrong or Content answers otherwise than the model; it counts the rows.
func matches(t *testing.T, f api.Frame, count map[int]int) {
	t.Helper()
	n, scope, code, content := model(f)
	count[n]++
	if s, c := frame.Wrong(f); s != scope || c != code {
		t.Fatalf("Wrong(%s) = %d, %d, want %d, %d", toldFrame(f), s, c, scope, code)
	}
	if got := frame.Content(f); got != content {
		t.Fatalf("Content(%s) = %s, want %s", toldFrame(f), told(got), told(content))
	}
}

// applied fails if a row, or none, didn't apply that often.
func applied(t *testing.T, count map[int]int, least int) {
	t.Helper()
	for n := -1; n < len(table); n++ {
		if count[n] < least {
			t.Errorf("row %d: %d times", n, count[n])
		}
	}
}

// payloads are those of a length, for a stream: of zeros, ones and others, with first bytes that tell of about as much padding as there is, with that stream at their beginning and behind a byte.
func payloads(size int, stream uint32) []string {
	long := strings.Repeat("z", size)
	all := []string{strings.Repeat("\x00", size), strings.Repeat("\xff", size), "\x80" + strings.Repeat("\x00", size)}
	for _, n := range []uint32{stream, 1<<31 | stream, stream + 1} {
		all = append(all, four(n)+long)
		for pad := max(size-8, 0); pad < size+2; pad++ {
			all = append(all, char(pad)+four(n)+long)
		}
	}
	for i := range all {
		all[i] = all[i][:size]
	}
	return all
}

func TestWrongAndContentOfManyFrames(t *testing.T) {
	count := map[int]int{}
	for _, kind := range []int{0, 1, 2, 3, 4, 5, 6, 7, 8, 9, 10, 11, 16, 32, 77, 128, 255} {
		for _, stream := range []uint32{0, 1, 2, 3, 256, maxStream} {
			for size := range 26 {
				for _, data := range payloads(size, stream) {
					for _, bits := range []int{0, 1, 8, 9, 32, 33, 40, 41} {
						matches(t, of(kind, bits, stream, data), count)
						matches(t, of(kind, bits|0xd6, stream, data), count)
					}
				}
			}
		}
	}
	applied(t, count, 50)
}

func TestWrongAndContentOfAllTypesAndFlags(t *testing.T) {
	count := map[int]int{}
	for kind := range 256 {
		for flags := range 256 {
			for _, stream := range []uint32{0, 1} {
				for _, data := range []string{"", "\x00", "\x01", "\x00\x00\x00\x01", nowhere, "\x00\x00\x00\x01w", "\x00\x00\x00\x00\x01w", "\x01\x00\x00\x00\x01wx", "\x02\x00\x00\x00\x01wx", "\x00\x00\x00\x02abcd", "\x00\x01\x00\x00\x00\x00\x00\x02\x00\x00\x00\x00"} {
					matches(t, of(kind, flags, stream, data), count)
				}
			}
		}
	}
	applied(t, count, 50)
}

// All first bytes, and all lengths up to more than these may tell of.
func TestWrongAndContentOfEachPadding(t *testing.T) {
	count := map[int]int{}
	for size := range 270 {
		for pad := range 256 {
			data := (char(pad) + "\x00\x00\x00\x01" + filler(270))[:size]
			for _, stream := range []uint32{1, 3} {
				for _, flags := range []int{8, 40} {
					matches(t, of(0, flags, stream, data), count)
					matches(t, of(1, flags, stream, data), count)
				}
			}
		}
	}
	for _, n := range []int{1, 2, 4, 5, 6} {
		if count[n] < 100 {
			t.Errorf("row %d: %d times", n, count[n])
		}
	}
}

// generated is a frame, mostly with a length at which something changes.
func generated(r *rand.Rand) api.Frame {
	kind := r.Intn(11)
	if kind == 10 {
		kind = r.Intn(256)
	}
	stream := uint32(r.Intn(3))
	switch r.Intn(6) {
	case 0:
		stream = r.Uint32() >> (1 + r.Intn(31))
	case 1:
		stream = 0
	}
	b := make([]byte, []int{0, 1, 3, 4, 5, 6, 7, 8, 9, 12, r.Intn(40), r.Intn(300), r.Intn(16385)}[r.Intn(13)])
	r.Read(b)
	switch r.Intn(4) {
	case 0:
		clear(b)
	case 1:
		copy(b, four(stream|r.Uint32()&(1<<31)))
	case 2:
		if len(b) > 0 {
			copy(b[1:], four(stream|r.Uint32()&(1<<31)))
		}
	}
	if len(b) > 0 && r.Intn(2) == 0 {
		b[0] = byte(max(len(b)+2-r.Intn(10), 0))
	}
	return of(kind, r.Intn(256), stream, string(b))
}

func TestWrongAndContentOfGeneratedFrames(t *testing.T) {
	r := rand.New(rand.NewSource(14))
	count := map[int]int{}
	for range 300000 {
		matches(t, generated(r), count)
	}
	applied(t, count, 200)
}

// modelParse is the frame that bytes begin with.
func modelParse(s string) (api.Frame, int, api.Errno) {
	if len(s) <= 8 {
		return api.Frame{}, 0, api.ErrShort
	}
	size := int(binary.BigEndian.Uint32([]byte("\x00" + s[:3])))
	switch {
	case size >= 16385:
		return api.Frame{}, 0, api.ErrLong
	case len(s[9:]) < size:
		return api.Frame{}, 0, api.ErrShort
	}
	stream := binary.BigEndian.Uint32([]byte(s[5:9])) % (1 << 31)
	return api.Frame{Type: s[3], Flags: s[4], Stream: stream, Data: s[9:][:size]}, 9 + size, api.OK
}

func TestParseGeneratedTexts(t *testing.T) {
	r := rand.New(rand.NewSource(15))
	all := filler(40000)
	count := map[string]int{}
	for range 200000 {
		b := make([]byte, r.Intn(14))
		r.Read(b)
		behind := all[:r.Intn(40)]
		if len(b) > 1 && r.Intn(4) > 0 {
			b[0], b[1] = 0, byte(r.Intn(2)*r.Intn(70))
			if r.Intn(4) == 0 {
				behind = all[:r.Intn(40000)]
			}
			if len(b) > 2 && b[1] == 0 {
				b[2] %= 50
			}
		}
		s := string(b) + behind
		f, n, e := modelParse(s)
		count[fmt.Sprint(e, len(s) < 9)]++
		if e != api.OK {
			none(t, s, e)
		} else {
			parses(t, s, f, n)
		}
		if t.Failed() {
			return
		}
	}
	for _, what := range []string{"0 false", "2 true", "2 false", "3 false"} {
		if count[what] < 5000 {
			t.Errorf("%s: %d times", what, count[what])
		}
	}
}

// Streams above those that may be are in no frame that was parsed; whatever is handed in, every call ends.
func TestFramesThatMayNotBe(t *testing.T) {
	for kind := range 256 {
		for _, flags := range []int{0, 1, 8, 32, 40, 255} {
			for _, stream := range []uint32{1 << 31, 1<<31 + 1, 1<<32 - 1} {
				for _, size := range []int{0, 1, 4, 5, 6, 8, 30} {
					for _, data := range payloads(size, 1) {
						f := of(kind, flags, stream, data)
						frame.Wrong(f)
						frame.Content(f)
						unprinted(t, f, api.ErrRange)
					}
				}
			}
		}
	}
}
