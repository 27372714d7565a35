package window_test

import (
	"maps"
	"testing"

	"nuncio/window"
)

// P17.2: Initial.

// With no stream open the first window alone changes, to any number that may be.
func TestInitialWithNoStream(t *testing.T) {
	for _, n := range append(numbers(), 0, start, most, most+1, most32) {
		fresh, grown := window.New(), wide(1)
		grown.Drop(1)
		if n > most {
			initial(t, fresh, n, flow)
			holds(t, fresh, start, start, nil)
			initial(t, grown, n, flow)
			holds(t, grown, most, start, nil)
			continue
		}
		initial(t, fresh, n, fine)
		holds(t, fresh, start, int(n), nil)
		initial(t, grown, n, fine)
		holds(t, grown, most, int(n), nil)
		fresh.Open(1)
		holds(t, fresh, start, int(n), streams{1: int(n)})
	}
}

// With some open all change by what the number is more, or less, than the one before; the connection's doesn't.
func TestInitialWithStreams(t *testing.T) {
	for _, n := range append(numbers(), 0, start, 100000, most-11, most-10) {
		b := opened(1, 3, 5)
		takes(t, b, 1, 1000, 1000)
		grows(t, b, 5, 10, fine)
		if int64(n)+10 > most {
			initial(t, b, n, flow)
			holds(t, b, start-1000, start, streams{1: start - 1000, 3: start, 5: start + 10})
			continue
		}
		initial(t, b, n, fine)
		holds(t, b, start-1000, int(n), streams{1: int(n) - 1000, 3: int(n), 5: int(n) + 10})
	}
}

// A number as it was changes nothing, also where a window is all that may be.
func TestInitialAsItWas(t *testing.T) {
	b := opened(1, 3)
	takes(t, b, 3, 5, 5)
	grows(t, b, 1, most-start, fine)
	initial(t, b, start, fine)
	holds(t, b, start-5, start, streams{1: most, 3: start - 5})
	initial(t, b, start+1, flow)
	holds(t, b, start-5, start, streams{1: most, 3: start - 5})
	initial(t, b, start-1, fine)
	initial(t, b, start-1, fine)
	holds(t, b, start-5, start-1, streams{1: most - 1, 3: start - 6})
	initial(t, b, start, fine)
	holds(t, b, start-5, start, streams{1: most, 3: start - 5})
}

// To no more than what may be exactly, by whatever number; one more changes nothing.
func TestInitialUpToWhatMayBe(t *testing.T) {
	for _, grown := range []uint32{0, 1, 10, start, 1 << 20, most - start - 1, most - start} {
		b := opened(1, 3)
		grows(t, b, 3, grown, fine)
		initial(t, b, most-grown+1, flow)
		holds(t, b, start, start, streams{1: start, 3: start + int(grown)})
		initial(t, b, most-grown, fine)
		holds(t, b, start, most-int(grown), streams{1: most - int(grown), 3: most})
		initial(t, b, most-grown+1, flow)
		holds(t, b, start, most-int(grown), streams{1: most - int(grown), 3: most})
	}
}

// What was taken of a stream leaves room for as much, but never for a number above what may be.
func TestInitialWhereSomeWasTaken(t *testing.T) {
	b := opened(1)
	takes(t, b, 1, 100, 100)
	grows(t, b, 1, 60, fine)
	initial(t, b, most+1, flow)
	initial(t, b, most+40, flow)
	holds(t, b, start-100, start, streams{1: start - 40})
	initial(t, b, most, fine)
	holds(t, b, start-100, most, streams{1: most - 40})
	b.Drop(1)
	initial(t, b, most+1, flow)
	holds(t, b, start-100, most, nil)
}

// One of many is all that may be, wherever it stands: one more changes none of them, nor the first window.
func TestInitialWithOneOfMany(t *testing.T) {
	const many = 40
	for full := range uint32(many) {
		b := window.New()
		all := streams{}
		for i := range uint32(many) {
			id := 2*i + 1
			b.Open(id)
			grows(t, b, id, i, fine)
			all[id] = start + int(i)
		}
		full := 2*full + 1
		grows(t, b, full, uint32(most-100-all[full]), fine)
		all[full] = most - 100
		initial(t, b, start+101, flow)
		holds(t, b, start, start, all)
		initial(t, b, start+100, fine)
		for id := range all {
			all[id] += 100
		}
		holds(t, b, start, start+100, all)
		initial(t, b, start+101, flow)
		initial(t, b, most, flow)
		initial(t, b, most+1, flow)
		initial(t, b, most32, flow)
		holds(t, b, start, start+100, all)
		b.Drop(full)
		delete(all, full)
		initial(t, b, start+101, fine)
		for id := range all {
			all[id]++
		}
		holds(t, b, start, start+101, all)
	}
}

// Of several that would be above it, none changes either.
func TestInitialWithAllFull(t *testing.T) {
	b := window.New()
	all := streams{}
	for id := range uint32(20) {
		b.Open(id + 1)
		grows(t, b, id+1, most-start, fine)
		all[id+1] = most
	}
	initial(t, b, start+1, flow)
	holds(t, b, start, start, all)
	initial(t, b, 0, fine)
	for id := range all {
		all[id] -= start
	}
	holds(t, b, start, 0, all)
}

// The connection's window plays no part, however great it is.
func TestInitialIsNotTheConnections(t *testing.T) {
	b := wide(1)
	initial(t, b, most, fine)
	holds(t, b, most, most, streams{1: most})
	initial(t, b, 0, fine)
	holds(t, b, most, 0, streams{1: 0})
	takes(t, b, 1, 5, 0)
	b = opened(1, 3)
	takes(t, b, 1, start, start)
	initial(t, b, 0, fine)
	initial(t, b, 7, fine)
	holds(t, b, 0, 7, streams{1: 7 - start, 3: 7})
	takes(t, b, 3, 5, 0)
}

// Below 0, and as far below it as may be.
func TestInitialBelowNothing(t *testing.T) {
	b := opened(1, 3)
	takes(t, b, 1, 60000, 60000)
	takes(t, b, 3, 1, 1)
	initial(t, b, 60001, fine)
	holds(t, b, start-60001, 60001, streams{1: 1, 3: 60000})
	initial(t, b, 60000, fine)
	holds(t, b, start-60001, 60000, streams{1: 0, 3: 59999})
	initial(t, b, 59999, fine)
	holds(t, b, start-60001, 59999, streams{1: -1, 3: 59998})
	initial(t, b, 0, fine)
	holds(t, b, start-60001, 0, streams{1: -60000, 3: -1})
	initial(t, b, 0, fine)
	holds(t, b, start-60001, 0, streams{1: -60000, 3: -1})
	initial(t, b, 1, fine)
	holds(t, b, start-60001, 1, streams{1: -59999, 3: 0})
	initial(t, b, most, fine)
	holds(t, b, start-60001, most, streams{1: most - 60000, 3: most - 1})
}

// Each behind each: the windows hang on the last number alone.
func TestInitialBehindInitial(t *testing.T) {
	rows := []uint32{0, 1, 10, start - 1, start, start + 1, 1 << 20, most - 1, most}
	for _, first := range rows {
		for _, second := range rows {
			b := opened(1, 3)
			takes(t, b, 1, 30, 30)
			initial(t, b, first, fine)
			b.Open(5)
			holds(t, b, start-30, int(first), streams{1: int(first) - 30, 3: int(first), 5: int(first)})
			initial(t, b, second, fine)
			b.Open(7)
			holds(t, b, start-30, int(second), streams{1: int(second) - 30, 3: int(second), 5: int(second), 7: int(second)})
			initial(t, b, most+1, flow)
			holds(t, b, start-30, int(second), streams{1: int(second) - 30, 3: int(second), 5: int(second), 7: int(second)})
		}
	}
}

// Behind one that may not be, the next one counts from the first window as it was.
func TestInitialBehindFlow(t *testing.T) {
	b := opened(1, 3)
	grows(t, b, 1, most-start-10, fine)
	for _, n := range []uint32{start + 11, most, most + 1, most32} {
		initial(t, b, n, flow)
		b.Open(5)
		holds(t, b, start, start, streams{1: most - 10, 3: start, 5: start})
		b.Drop(5)
	}
	initial(t, b, start+10, fine)
	holds(t, b, start, start+10, streams{1: most, 3: start + 10})
	takes(t, b, 1, 5, 5)
	initial(t, b, start+16, flow)
	initial(t, b, start+15, fine)
	holds(t, b, start-5, start+15, streams{1: most, 3: start + 15})
}

// A stream that is dropped, and one that is opened behind it, hinder nothing that they aren't open for.
func TestInitialOfStreamsThatAreOpen(t *testing.T) {
	b := opened(1, 3)
	grows(t, b, 1, most-start, fine)
	initial(t, b, start+1, flow)
	b.Drop(1)
	initial(t, b, start+1, fine)
	holds(t, b, start, start+1, streams{3: start + 1})
	b.Open(1)
	initial(t, b, most, fine)
	holds(t, b, start, most, streams{1: most, 3: most})
	initial(t, b, 4, fine)
	b.Open(5)
	grows(t, b, 5, 1, fine)
	b.Open(5)
	initial(t, b, most, fine)
	holds(t, b, start, most, streams{1: most, 3: most, 5: most})
}

// All streams change, however many there are.
func TestInitialOfMany(t *testing.T) {
	b := wide()
	all := streams{}
	for id := range uint32(5000) {
		b.Open(id)
		all[id] = start
	}
	taken := 0
	for id := range uint32(100) {
		takes(t, b, id*7, int(id), int(id))
		all[id*7] -= int(id)
		taken += int(id)
	}
	before := maps.Clone(all)
	for _, n := range []int{0, 1, 100, 1 << 20, most, start} {
		initial(t, b, uint32(n), fine)
		for id := range all {
			all[id] = before[id] + n - start
		}
		holds(t, b, most-taken, n, all)
	}
}
