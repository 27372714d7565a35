package feed_test

import (
	"fmt"
	"math/rand"
	"slices"
	"testing"

	"nuncio/api"
	"nuncio/feed"
)

// P15.1 to P15.3 held against a model of them, which goes through bytes one by one.

// model knows what comes next.
type model struct {
	// ahead is what is left of the preface.
	ahead string
	down  bool
	// Of a frame: the nine bytes of its head, as many as came, how long its payload is, and that.
	head    []byte
	size    int
	payload []byte
	frames  []api.Frame
}

// newModel is one that wants the preface, or not.
func newModel(wants bool) *model {
	if wants {
		return &model{ahead: preface}
	}
	return &model{}
}

// next takes a byte and answers a code.
func (m *model) next(b byte) uint32 {
	switch {
	case m.down:
		return fine
	case m.ahead != "":
		if m.ahead[0] != b {
			m.down = true
			return protocol
		}
		m.ahead = m.ahead[1:]
		return fine
	case len(m.head) < 9:
		m.head = append(m.head, b)
		if len(m.head) == 9 {
			m.size = int(m.head[0])*65536 + int(m.head[1])*256 + int(m.head[2])
			if m.size > 16384 {
				m.down = true
				return frameSize
			}
		}
	default:
		m.payload = append(m.payload, b)
	}
	if len(m.head) == 9 && len(m.payload) == m.size {
		stream := uint32(0)
		for _, b := range m.head[5:] {
			stream = stream*256 + uint32(b)
		}
		m.frames = append(m.frames, of(int(m.head[3]), int(m.head[4]), stream%(1<<31), string(m.payload)))
		m.head, m.payload = nil, nil
	}
	return fine
}

// held is how many bytes came of what isn't whole.
func (m *model) held() int {
	switch {
	case m.down:
		return 0
	case m.ahead != "":
		return len(preface) - len(m.ahead)
	}
	return len(m.head) + len(m.payload)
}

// add takes bytes and answers the frames that became whole, and the code.
func (m *model) add(s string) ([]api.Frame, uint32) {
	m.frames = nil
	code := uint32(fine)
	for _, b := range []byte(s) {
		code = max(code, m.next(b))
	}
	return m.frames, code
}

// matches fails if a feed answers otherwise than the model behind any piece. It answers the last code that isn't 0.
func matches(t *testing.T, wants bool, pieces []string) uint32 {
	t.Helper()
	f, m := feed.New(wants), newModel(wants)
	last := uint32(fine)
	for i, piece := range pieces {
		list, code := f.Add(piece)
		frames, c := m.add(piece)
		if !slices.Equal(list, frames) || code != c || f.Held() != m.held() || f.Down() != m.down {
			t.Fatalf("piece %d (%s): %s, %d, %d held, down %t, want %s, %d, %d, %t", i, told(piece), toldFrames(list), code, f.Held(), f.Down(), toldFrames(frames), c, m.held(), m.down)
		}
		last = max(last, code)
	}
	return last
}

// generatedFrame is one, mostly with a length at which something changes, sometimes one that is too great.
func generatedFrame(r *rand.Rand) string {
	size := []int{0, 0, 1, 2, 8, 9, 10, 24, 255, 256, r.Intn(40), r.Intn(600)}[r.Intn(12)]
	switch r.Intn(60) {
	case 0:
		size = 16384 - r.Intn(3)
	case 1:
		size = r.Intn(16385)
	case 2:
		return head([]int{16385, 16386, 65536, r.Intn(1 << 24), 16385 + r.Intn(300)}[r.Intn(5)], r.Intn(256), r.Intn(256), r.Uint32())
	}
	b := make([]byte, size)
	r.Read(b)
	return head(size, r.Intn(11), r.Intn(256), r.Uint32()) + string(b)
}

// generated are the bytes of some frames, mostly behind the preface where it is wanted, sometimes with a byte that is another one, or cut off.
func generated(r *rand.Rand, wants bool) string {
	s := ""
	if wants != (r.Intn(40) == 0) {
		s = preface
	}
	for range r.Intn(8) {
		s += generatedFrame(r)
	}
	b := []byte(s)
	if len(b) > 0 && r.Intn(8) == 0 {
		b[r.Intn(min(len(b), 40))] ^= 1 << r.Intn(8)
	}
	if r.Intn(2) == 0 {
		b = b[:r.Intn(len(b)+1)]
	}
	return string(b)
}

func TestGeneratedStreams(t *testing.T) {
	r := rand.New(rand.NewSource(20))
	count := map[string]int{}
	for range 20000 {
		wants := r.Intn(2) == 0
		s := generated(r, wants)
		code := matches(t, wants, cutAtRandom(r, s))
		count[fmt.Sprint(wants, code)]++
		if c := matches(t, wants, []string{s}); c != code {
			t.Fatalf("%s: %d and %d", told(s), code, c)
		}
		if len(s) < 200 {
			matches(t, wants, cutInto(s, 1))
		}
	}
	for _, what := range []string{"true 0", "true 1", "true 6", "false 0", "false 6"} {
		if count[what] < 300 {
			t.Errorf("%s: %d times", what, count[what])
		}
	}
	if n := count["false 1"]; n > 0 {
		t.Errorf("Protocol where no preface is wanted: %d times", n)
	}
}

// Any bytes at all.
func TestAnyBytes(t *testing.T) {
	r := rand.New(rand.NewSource(22))
	for range 30000 {
		b := make([]byte, r.Intn(60))
		r.Read(b)
		for i := range b {
			if r.Intn(2) == 0 {
				b[i] = byte(r.Intn(3))
			}
		}
		s := string(b)
		matches(t, false, cutAtRandom(r, s))
		matches(t, true, cutAtRandom(r, s))
		matches(t, true, cutAtRandom(r, preface+s))
	}
}
