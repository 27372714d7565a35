package window_test

import (
	"runtime"
	"testing"

	"nuncio/window"
)

// P17.1: New, Open, Drop, Conn, Of.

func TestNew(t *testing.T) {
	b := window.New()
	if b.Conn() != 65535 {
		t.Errorf("Conn() = %d", b.Conn())
	}
	for id := range uint32(1000) {
		if w, ok := b.Of(id); w != 0 || ok {
			t.Errorf("Of(%d) = %d, %t", id, w, ok)
		}
	}
	holds(t, b, 65535, 65535, nil)
	if b == window.New() {
		t.Error("two books are one")
	}
}

func TestOpen(t *testing.T) {
	for _, id := range watched {
		b := window.New()
		b.Open(id)
		holds(t, b, start, start, streams{id: 65535})
	}
	b := window.New()
	all := streams{}
	for _, id := range watched {
		b.Open(id)
		all[id] = 65535
		holds(t, b, start, start, all)
	}
}

// The numbers play no part: neither their order nor how many are open.
func TestOpenOfMany(t *testing.T) {
	b := window.New()
	all := streams{}
	for i := range uint32(3000) {
		id := (i*1999 + 7) % 4001
		b.Open(id)
		all[id] = start
	}
	holds(t, b, start, start, all)
	takes(t, b, 7, 5, 5)
	all[7] = start - 5
	holds(t, b, start-5, start, all)
}

// One that was open begins anew.
func TestOpenOfOneThatWasOpen(t *testing.T) {
	b := opened(1, 3)
	b.Open(1)
	holds(t, b, start, start, streams{1: start, 3: start})
	grows(t, b, 1, 1000, fine)
	b.Open(1)
	holds(t, b, start, start, streams{1: start, 3: start})
	takes(t, b, 1, 100, 100)
	takes(t, b, 3, 7, 7)
	b.Open(1)
	holds(t, b, start-107, start, streams{1: start, 3: start - 7})
	initial(t, b, 10, fine)
	holds(t, b, start-107, 10, streams{1: 10, 3: 3})
	takes(t, b, 1, 10, 10)
	b.Open(1)
	holds(t, b, start-117, 10, streams{1: 10, 3: 3})
	takes(t, b, 1, 10, 10)
	initial(t, b, 0, fine)
	holds(t, b, start-127, 0, streams{1: -10, 3: -7})
	b.Open(1)
	holds(t, b, start-127, 0, streams{1: 0, 3: -7})
	grows(t, b, 1, most, fine)
	b.Open(1)
	grows(t, b, 1, most, fine)
	holds(t, b, start-127, 0, streams{1: most, 3: -7})
}

func TestDrop(t *testing.T) {
	for _, id := range watched {
		b := opened(watched...)
		all := streams{}
		for _, other := range watched {
			all[other] = start
		}
		b.Drop(id)
		delete(all, id)
		holds(t, b, start, start, all)
		b.Drop(id)
		holds(t, b, start, start, all)
		b.Open(id)
		all[id] = start
		holds(t, b, start, start, all)
	}
}

func TestDropOfOneThatIsNotOpen(t *testing.T) {
	b := window.New()
	for _, id := range watched {
		b.Drop(id)
		holds(t, b, start, start, nil)
	}
	b = opened(1, 5)
	takes(t, b, 1, 3, 3)
	b.Drop(3)
	holds(t, b, start-3, start, streams{1: start - 3, 5: start})
	b.Open(3)
	holds(t, b, start-3, start, streams{1: start - 3, 3: start, 5: start})
}

// Behind a Drop nothing is left of what the window was; what was taken of the connection's stays taken.
func TestOpenBehindDrop(t *testing.T) {
	b := opened(1, 3)
	grows(t, b, 1, 100, fine)
	takes(t, b, 3, 300, 300)
	b.Drop(1)
	b.Drop(3)
	holds(t, b, start-300, start, nil)
	takes(t, b, 1, 10, 0)
	takes(t, b, 3, 10, 0)
	grows(t, b, 1, 5, fine)
	grows(t, b, 3, 5, fine)
	holds(t, b, start-300, start, nil)
	b.Open(3)
	b.Open(1)
	holds(t, b, start-300, start, streams{1: start, 3: start})
	b.Drop(1)
	initial(t, b, 50, fine)
	holds(t, b, start-300, 50, streams{3: 50})
	b.Open(1)
	holds(t, b, start-300, 50, streams{1: 50, 3: 50})
}

// Of and Conn tell, and change nothing.
func TestOfAndConnChangeNothing(t *testing.T) {
	b := opened(3)
	for range 3 {
		for _, id := range watched {
			b.Of(id)
			b.Conn()
		}
	}
	holds(t, b, start, start, streams{3: start})
	initial(t, b, 9, fine)
	holds(t, b, start, 9, streams{3: 9})
}

// A window of 0 is one of a stream that is open.
func TestOfAWindowOfNothing(t *testing.T) {
	b := opened(1, 3)
	takes(t, b, 1, start, start)
	if w, ok := b.Of(1); w != 0 || !ok {
		t.Errorf("Of(1) = %d, %t", w, ok)
	}
	initial(t, b, 0, fine)
	b.Open(5)
	holds(t, b, 0, 0, streams{1: -start, 3: 0, 5: 0})
	b.Drop(5)
	holds(t, b, 0, 0, streams{1: -start, 3: 0})
}

// The connection's window is none of a stream's, and no stream's is the connection's.
func TestTheConnectionIsNoStream(t *testing.T) {
	b := opened(1)
	grows(t, b, 0, 100, fine)
	if w, ok := b.Of(0); w != 0 || ok {
		t.Errorf("Of(0) = %d, %t", w, ok)
	}
	takes(t, b, 0, 10, 0)
	b.Drop(0)
	holds(t, b, start+100, start, streams{1: start})
	b.Drop(1)
	holds(t, b, start+100, start, nil)
	takes(t, b, 0, 10, 0)
	grows(t, b, 0, most-start-100, fine)
	grows(t, b, 0, 1, flow)
	holds(t, b, most, start, nil)
}

// Open takes any number; Grow of 0 is the connection's also then.
func TestOpenOfNumberNothing(t *testing.T) {
	b := opened(0)
	grows(t, b, 0, 1000, fine)
	holds(t, b, start+1000, start, streams{0: start})
	takes(t, b, 0, 100, 100)
	holds(t, b, start+900, start, streams{0: start - 100})
	grows(t, b, 0, most, flow)
	holds(t, b, start+900, start, streams{0: start - 100})
	initial(t, b, 50, fine)
	holds(t, b, start+900, 50, streams{0: 50 - 100})
	b.Drop(0)
	holds(t, b, start+900, 50, nil)
}

// Of what is dropped nothing is kept.
func TestDropKeepsNothing(t *testing.T) {
	const many = 1 << 20
	b := window.New()
	before := used()
	for id := range uint32(many) {
		b.Open(id)
		b.Grow(id, 1)
		b.Drop(id)
	}
	if now := used(); now > before+many {
		t.Errorf("it holds %d bytes more than ahead of it", now-before)
	}
	holds(t, b, start+1, start, nil)
}

// used are the bytes that are in use.
func used() uint64 {
	var m runtime.MemStats
	runtime.GC()
	runtime.ReadMemStats(&m)
	return m.HeapAlloc
}
