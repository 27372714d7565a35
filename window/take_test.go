package window_test

import (
	"math"
	"testing"

	"nuncio/window"
)

// P17.3: Take.

func TestTake(t *testing.T) {
	for _, id := range watched[1:] {
		b := opened(id, 15)
		takes(t, b, id, 1, 1)
		holds(t, b, start-1, start, streams{id: start - 1, 15: start})
		takes(t, b, id, 1000, 1000)
		holds(t, b, start-1001, start, streams{id: start - 1001, 15: start})
		takes(t, b, 15, 10, 10)
		holds(t, b, start-1011, start, streams{id: start - 1001, 15: start - 10})
	}
}

// The chapter's examples.
func TestTakeOfTheExamples(t *testing.T) {
	b := window.New()
	b.Open(1)
	takes(t, b, 1, 60000, 60000)
	b.Open(3)
	takes(t, b, 3, 10000, 5535)
	holds(t, b, 0, start, streams{1: 5535, 3: 60000})

	b = opened(1)
	takes(t, b, 1, 60000, 60000)
	initial(t, b, 0, fine)
	holds(t, b, 5535, 0, streams{1: -60000})
	grows(t, b, 1, 70000, fine)
	holds(t, b, 5535, 0, streams{1: 10000})
}

// Nothing is taken of 0, or of less than it; nor is anything given back.
func TestTakeOfNothing(t *testing.T) {
	for _, want := range []int{0, -1, -2, -65535, -65536, math.MinInt32, math.MinInt + 1, math.MinInt} {
		b := opened(1, 3)
		takes(t, b, 1, want, 0)
		holds(t, b, start, start, streams{1: start, 3: start})
		takes(t, b, 1, 10, 10)
		takes(t, b, 1, want, 0)
		takes(t, b, 5, want, 0)
		takes(t, b, 0, want, 0)
		holds(t, b, start-10, start, streams{1: start - 10, 3: start})
		initial(t, b, 0, fine)
		takes(t, b, 1, want, 0)
		takes(t, b, 3, want, 0)
		holds(t, b, start-10, 0, streams{1: -10, 3: 0})
	}
}

// about are the numbers about one, and greater ones.
func about(n int) []int {
	return []int{n - 1, n, n + 1, n + 1000, math.MaxInt32, math.MaxUint32, math.MaxUint32 + 2, math.MaxInt - 1, math.MaxInt}
}

// Where the stream's window is the lesser, no more than it.
func TestTakeWhereTheStreamsIsLess(t *testing.T) {
	for _, w := range []int{1, 2, 100, start - 1} {
		for _, want := range about(w) {
			b := opened(1, 3)
			initial(t, b, uint32(w), fine)
			got := min(want, w)
			takes(t, b, 1, want, got)
			holds(t, b, start-got, w, streams{1: w - got, 3: w})
			takes(t, b, 1, math.MaxInt, w-got)
			takes(t, b, 1, math.MaxInt, 0)
			holds(t, b, start-w, w, streams{1: 0, 3: w})
			takes(t, b, 3, 1, 1)
			holds(t, b, start-w-1, w, streams{1: 0, 3: w - 1})
		}
	}
}

// Where the connection's window is the lesser, no more than it, for all streams together.
func TestTakeWhereTheConnectionsIsLess(t *testing.T) {
	for _, left := range []int{1, 2, 100, 30000} {
		for _, want := range about(left) {
			b := opened(1, 3)
			takes(t, b, 1, start-left, start-left)
			got := min(want, left)
			takes(t, b, 3, want, got)
			holds(t, b, left-got, start, streams{1: left, 3: start - got})
			takes(t, b, 1, math.MaxInt, left-got)
			takes(t, b, 1, math.MaxInt, 0)
			takes(t, b, 3, math.MaxInt, 0)
			holds(t, b, 0, start, streams{1: got, 3: start - got})
		}
	}
}

// Exactly what both have, and what one of them has, where the other has one more or one less.
func TestTakeOfExactlyWhatIsThere(t *testing.T) {
	b := opened(1, 3)
	takes(t, b, 1, start, start)
	holds(t, b, 0, start, streams{1: 0, 3: start})
	takes(t, b, 1, 1, 0)
	takes(t, b, 3, 1, 0)
	holds(t, b, 0, start, streams{1: 0, 3: start})

	b = opened(1)
	grows(t, b, 0, 1, fine)
	takes(t, b, 1, start, start)
	holds(t, b, 1, start, streams{1: 0})
	takes(t, b, 1, 1, 0)
	holds(t, b, 1, start, streams{1: 0})

	b = opened(1)
	grows(t, b, 1, 1, fine)
	takes(t, b, 1, start+1, start)
	holds(t, b, 0, start, streams{1: 1})
	takes(t, b, 1, 1, 0)
	holds(t, b, 0, start, streams{1: 1})
	grows(t, b, 0, 1, fine)
	takes(t, b, 1, 2, 1)
	holds(t, b, 0, start, streams{1: 0})
}

// All that may be at one time.
func TestTakeOfTheMost(t *testing.T) {
	b := wide(1, 3)
	grows(t, b, 1, most-start, fine)
	takes(t, b, 1, most-1, most-1)
	holds(t, b, 1, start, streams{1: 1, 3: start})
	takes(t, b, 3, math.MaxInt, 1)
	holds(t, b, 0, start, streams{1: 1, 3: start - 1})
	grows(t, b, 0, most, fine)
	grows(t, b, 1, most-1, fine)
	takes(t, b, 1, math.MaxInt, most)
	holds(t, b, 0, start, streams{1: 0, 3: start - 1})
}

// Of a stream that isn't open nothing, and the connection's window stays; it isn't opened by it.
func TestTakeOfAStreamThatIsNotOpen(t *testing.T) {
	for _, want := range []int{math.MinInt, -1, 0, 1, 100, start, start + 1, most, math.MaxInt} {
		b := opened(3, 9)
		b.Drop(9)
		for _, id := range watched {
			if id != 3 {
				takes(t, b, id, want, 0)
			}
		}
		holds(t, b, start, start, streams{3: start})
		initial(t, b, 10, fine)
		holds(t, b, start, 10, streams{3: 10})
		takes(t, window.New(), 1, want, 0)
	}
}

// Of a window of 0 or below it nothing, till it has grown above it.
func TestTakeOfAWindowBelowNothing(t *testing.T) {
	b := opened(1, 3)
	takes(t, b, 1, 100, 100)
	initial(t, b, 90, fine)
	holds(t, b, start-100, 90, streams{1: -10, 3: 90})
	for _, want := range []int{math.MinInt, -11, -10, -9, -1, 0, 1, 10, math.MaxInt} {
		takes(t, b, 1, want, 0)
		holds(t, b, start-100, 90, streams{1: -10, 3: 90})
	}
	grows(t, b, 1, 9, fine)
	takes(t, b, 1, math.MaxInt, 0)
	holds(t, b, start-100, 90, streams{1: -1, 3: 90})
	grows(t, b, 1, 1, fine)
	takes(t, b, 1, math.MaxInt, 0)
	holds(t, b, start-100, 90, streams{1: 0, 3: 90})
	grows(t, b, 1, 1, fine)
	takes(t, b, 1, math.MaxInt, 1)
	holds(t, b, start-101, 90, streams{1: 0, 3: 90})
	initial(t, b, 89, fine)
	takes(t, b, 1, 1, 0)
	initial(t, b, 95, fine)
	takes(t, b, 1, math.MaxInt, 5)
	takes(t, b, 3, math.MaxInt, 95)
	holds(t, b, start-201, 95, streams{1: 0, 3: 0})
}

// Where the connection's window is 0, nothing of any stream, and nothing of a stream's window goes.
func TestTakeWhereTheConnectionHasNothing(t *testing.T) {
	b := opened(1, 3)
	takes(t, b, 1, start, start)
	initial(t, b, start+10, fine)
	for _, want := range []int{1, 10, math.MaxInt} {
		takes(t, b, 1, want, 0)
		takes(t, b, 3, want, 0)
	}
	holds(t, b, 0, start+10, streams{1: 10, 3: start + 10})
	b.Drop(1)
	b.Open(1)
	takes(t, b, 1, 5, 0)
	grows(t, b, 0, 12, fine)
	takes(t, b, 1, 5, 5)
	takes(t, b, 3, 10, 7)
	holds(t, b, 0, start+10, streams{1: start + 5, 3: start + 3})
}
