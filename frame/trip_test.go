package frame_test

import (
	"math/rand"
	"testing"

	"nuncio/api"
	"nuncio/frame"
)

// P14.4: a frame that was printed is parsed, and what is parsed was printed, but for the stream's highest bit.

// there fails if a frame isn't parsed of what it was printed as, whatever stands behind it, or is parsed of less.
func there(t *testing.T, f api.Frame, cuts ...int) {
	t.Helper()
	s, e := frame.Print(f)
	if e != api.OK || len(s) != 9+len(f.Data) {
		t.Fatalf("Print(%s) = %s, %d", toldFrame(f), told(s), e)
	}
	for _, behind := range []string{"", "\x00", "\xff\xff", head(0, 4, 0, 0), s} {
		parses(t, s+behind, f, len(s))
	}
	for _, size := range cuts {
		none(t, s[:size], api.ErrShort)
	}
	if t.Failed() {
		t.FailNow()
	}
}

// back fails if what is parsed of a text isn't printed as its beginning, but for that bit.
func back(t *testing.T, s string) (api.Frame, int, api.Errno) {
	t.Helper()
	f, n, e := frame.Parse(s)
	if e != api.OK {
		return f, n, e
	}
	want := []byte(s[:n])
	want[5] %= 128
	prints(t, f, string(want))
	return f, n, e
}

// upTo are all numbers below one.
func upTo(n int) []int {
	all := make([]int, n)
	for i := range all {
		all[i] = i
	}
	return all
}

func TestPrintedIsParsedCutOffAnywhere(t *testing.T) {
	for _, size := range []int{0, 1, 2, 8, 9, 255, 256, 257, 4096, 16383, 16384} {
		for _, stream := range []uint32{0, 1, maxStream} {
			there(t, of(1, 37, stream, filler(size)), upTo(9+size)...)
		}
	}
}

func TestPrintedIsParsedOfGeneratedFrames(t *testing.T) {
	r := rand.New(rand.NewSource(16))
	for range 20000 {
		f := generated(r)
		there(t, f, r.Intn(9+len(f.Data)), 8+len(f.Data))
	}
}

// Also of those that are made by layer 14.
func TestPrintedIsParsedOfWhatIsMade(t *testing.T) {
	for _, n := range numbers() {
		for _, m := range numbers() {
			there(t, frame.Reset(n, m), upTo(13)...)
			there(t, frame.Goaway(n, m), upTo(17)...)
			there(t, frame.Window(n, m), upTo(13)...)
		}
		there(t, frame.Settings(api.Setting{ID: uint16(n), Value: n}, api.Setting{ID: 1, Value: n}), upTo(21)...)
	}
	there(t, frame.Settings(), upTo(9)...)
}

func TestParsedWasPrinted(t *testing.T) {
	for _, stream := range numbers() {
		for _, data := range []string{"", "x", "\xff\xff\xff\xff", filler(300)} {
			s := head(len(data), 3, 0xa5, stream) + data
			f, n, e := back(t, s+"behind")
			if e != api.OK || n != len(s) || f.Stream != cut(stream) || f.Data != data {
				t.Errorf("Parse(%s) = %s, %d, %d", told(s), toldFrame(f), n, e)
			}
		}
	}
}

func TestParsedWasPrintedOfGeneratedTexts(t *testing.T) {
	r := rand.New(rand.NewSource(17))
	count := 0
	for range 100000 {
		b := make([]byte, 9+r.Intn(60))
		r.Read(b)
		b[0], b[1], b[2] = 0, 0, b[2]%64
		if _, _, e := back(t, string(b)); e == api.OK {
			count++
		}
		if t.Failed() {
			return
		}
	}
	if count < 20000 {
		t.Errorf("only %d frames", count)
	}
}

// Frames one behind the other are parsed one behind the other.
func TestFramesInARow(t *testing.T) {
	r := rand.New(rand.NewSource(18))
	for range 200 {
		var frames []api.Frame
		all := ""
		for range r.Intn(12) {
			f := generated(r)
			s, _ := frame.Print(f)
			frames = append(frames, f)
			all += s
		}
		for _, f := range frames {
			parses(t, all, f, 9+len(f.Data))
			all = all[min(9+len(f.Data), len(all)):]
		}
		none(t, all, api.ErrShort)
	}
}

// What was asked before plays no part.
func TestAnswersHangOnArgumentsAlone(t *testing.T) {
	r := rand.New(rand.NewSource(19))
	for range 3000 {
		f, g := generated(r), generated(r)
		s, _ := frame.Print(f)
		scope, code := frame.Wrong(f)
		content := frame.Content(f)
		frame.Print(g)
		frame.Wrong(g)
		frame.Content(g)
		frame.Parse(s + "x")
		prints(t, f, s)
		judged(t, f, scope, code)
		contains(t, f, content)
		parses(t, s, f, len(s))
	}
}
