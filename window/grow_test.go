package window_test

import (
	"testing"

	"nuncio/window"
)

// P17.2: Grow.

func TestGrowOfTheConnection(t *testing.T) {
	b := opened(1, 3)
	all := streams{1: start, 3: start}
	grows(t, b, 0, 0, fine)
	holds(t, b, start, start, all)
	grows(t, b, 0, 1, fine)
	holds(t, b, start+1, start, all)
	grows(t, b, 0, 1000, fine)
	holds(t, b, start+1001, start, all)
	grows(t, b, 0, most-start-1001, fine)
	holds(t, b, most, start, all)
	for _, n := range numbers() {
		if n == 0 {
			continue
		}
		grows(t, b, 0, n, flow)
		holds(t, b, most, start, all)
	}
	grows(t, b, 0, 0, fine)
	holds(t, b, most, start, all)
}

func TestGrowOfAStream(t *testing.T) {
	for _, id := range watched[1:] {
		b := opened(id, 15)
		grows(t, b, id, 0, fine)
		holds(t, b, start, start, streams{id: start, 15: start})
		grows(t, b, id, 1, fine)
		holds(t, b, start, start, streams{id: start + 1, 15: start})
		grows(t, b, id, 1000, fine)
		holds(t, b, start, start, streams{id: start + 1001, 15: start})
		grows(t, b, id, most-start-1001, fine)
		holds(t, b, start, start, streams{id: most, 15: start})
		for _, n := range numbers() {
			if n == 0 {
				continue
			}
			grows(t, b, id, n, flow)
			holds(t, b, start, start, streams{id: most, 15: start})
		}
		grows(t, b, id, 0, fine)
		grows(t, b, 15, 2, fine)
		holds(t, b, start, start, streams{id: most, 15: start + 2})
	}
}

// From a window as it is at first, by each number: to what may be, or not at all.
func TestGrowByEachNumber(t *testing.T) {
	all := append(numbers(), most-start-2, most-start-1, most-start, most-start+1, most-start+2, most32-start-1, most32-start, most32-start+1)
	for _, n := range all {
		conn, stream := opened(1), opened(1)
		if int64(n)+start > most {
			grows(t, conn, 0, n, flow)
			holds(t, conn, start, start, streams{1: start})
			grows(t, stream, 1, n, flow)
			holds(t, stream, start, start, streams{1: start})
			continue
		}
		grows(t, conn, 0, n, fine)
		holds(t, conn, start+int(n), start, streams{1: start})
		grows(t, stream, 1, n, fine)
		holds(t, stream, start, start, streams{1: start + int(n)})
	}
}

// What would be too much undoes nothing: less than it may still come.
func TestGrowBehindFlow(t *testing.T) {
	b := opened(1)
	for _, id := range []uint32{0, 1} {
		grows(t, b, id, most32, flow)
		grows(t, b, id, most, flow)
		grows(t, b, id, most-start+1, flow)
		grows(t, b, id, most-start, fine)
		grows(t, b, id, 1, flow)
	}
	holds(t, b, most, start, streams{1: most})
	takes(t, b, 1, 10, 10)
	for _, id := range []uint32{0, 1} {
		grows(t, b, id, 11, flow)
		grows(t, b, id, 10, fine)
	}
	holds(t, b, most, start, streams{1: most})
}

// The connection's window and those of streams grow apart: one that is full hinders no other.
func TestGrowOfOneWindowIsNoOthers(t *testing.T) {
	b := opened(1, 3, 5)
	grows(t, b, 3, most-start, fine)
	grows(t, b, 3, 1, flow)
	grows(t, b, 1, 1, fine)
	grows(t, b, 0, 2, fine)
	holds(t, b, start+2, start, streams{1: start + 1, 3: most, 5: start})
	grows(t, b, 0, most-start-2, fine)
	grows(t, b, 0, 1, flow)
	grows(t, b, 5, 7, fine)
	holds(t, b, most, start, streams{1: start + 1, 3: most, 5: start + 7})
	b.Drop(3)
	b.Open(7)
	grows(t, b, 7, 9, fine)
	holds(t, b, most, start, streams{1: start + 1, 5: start + 7, 7: start + 9})
}

// A stream that isn't open has no window that is too great, and isn't opened by it.
func TestGrowOfAStreamThatIsNotOpen(t *testing.T) {
	fresh, dropped, full := window.New(), opened(9, 3), wide(3)
	dropped.Drop(9)
	grows(t, full, 3, most-start, fine)
	for _, id := range watched {
		if id == 0 || id == 3 {
			continue
		}
		for _, n := range numbers() {
			grows(t, fresh, id, n, fine)
			grows(t, dropped, id, n, fine)
			grows(t, full, id, n, fine)
		}
		holds(t, fresh, start, start, nil)
		holds(t, dropped, start, start, streams{3: start})
		holds(t, full, most, start, streams{3: most})
	}
	dropped.Open(9)
	holds(t, dropped, start, start, streams{3: start, 9: start})
}

// Of a window below 0: to below 0, to 0, above it, up to what may be, and one more.
func TestGrowOfAWindowBelowNothing(t *testing.T) {
	below := func() *window.Book {
		b := opened(1)
		takes(t, b, 1, 60000, 60000)
		initial(t, b, 0, fine)
		holds(t, b, 5535, 0, streams{1: -60000})
		return b
	}
	for _, n := range []uint32{0, 1, 59999, 60000, 60001, 70000, most - 1, most, most + 1, most + 59999, most + 60000} {
		b := below()
		grows(t, b, 1, n, fine)
		holds(t, b, 5535, 0, streams{1: int(n) - 60000})
	}
	for _, n := range []uint32{most + 60001, most + 60002, most32 - 1, most32} {
		b := below()
		grows(t, b, 1, n, flow)
		holds(t, b, 5535, 0, streams{1: -60000})
	}
}

// As far below 0 as may be: by 2^32 - 2 it is all that may be.
func TestGrowOfTheLeastWindow(t *testing.T) {
	b := wide(1)
	initial(t, b, most, fine)
	takes(t, b, 1, most, most)
	initial(t, b, 0, fine)
	holds(t, b, 0, 0, streams{1: -most})
	grows(t, b, 1, most32, flow)
	holds(t, b, 0, 0, streams{1: -most})
	grows(t, b, 1, most32-1, fine)
	holds(t, b, 0, 0, streams{1: most})
}
