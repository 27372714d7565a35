package window_test

import (
	"testing"

	"nuncio/window"
)

const (
	// The codes, as RFC 9113 numbers them.
	fine = 0
	flow = 3
	// What a window is ahead of anything told, and what it may be at most.
	start  = 65535
	most   = 1<<31 - 1
	most32 = 1<<32 - 1
	// A stream that no test opens but to see the first window.
	probe = 424242
)

// watched are the streams of which the tests tell.
var watched = []uint32{0, 1, 2, 3, 4, 5, 7, 9, 11, 13, 1<<16 + 1, 1<<31 - 1, 1 << 31, 1<<31 + 1, most32}

// numbers are some at which something changes, and those about them.
func numbers() []uint32 {
	var all []uint32
	for _, n := range []uint32{0, 3, start, 1 << 20, 1 << 31, 1<<31 + start} {
		all = append(all, n-2, n-1, n, n+1, n+2)
	}
	for bit := range 32 {
		all = append(all, 1<<bit, ^uint32(1<<bit))
	}
	return all
}

// streams are windows by the streams that are open.
type streams map[uint32]int

// holds fails if a book tells other windows than these: the connection's, the first one, and those of the streams.
func holds(t *testing.T, b *window.Book, conn, first int, open streams) {
	t.Helper()
	if got := b.Conn(); got != conn {
		t.Errorf("Conn() = %d, want %d", got, conn)
	}
	for _, id := range watched {
		want, is := open[id]
		if got, ok := b.Of(id); got != want || ok != is {
			t.Errorf("Of(%d) = %d, %t, want %d, %t", id, got, ok, want, is)
		}
	}
	for id, want := range open {
		if got, ok := b.Of(id); got != want || !ok {
			t.Errorf("Of(%d) = %d, %t, want %d, true", id, got, ok, want)
		}
	}
	if got := firstOf(b); got != first {
		t.Errorf("the first window is %d, want %d", got, first)
	}
}

// firstOf is the first window: that of a stream that is opened for it.
func firstOf(b *window.Book) int {
	b.Open(probe)
	first, _ := b.Of(probe)
	b.Drop(probe)
	return first
}

// grows fails if the answer to Grow is another code.
func grows(t *testing.T, b *window.Book, id, n, code uint32) {
	t.Helper()
	if got := b.Grow(id, n); got != code {
		t.Errorf("Grow(%d, %d) = %d, want %d", id, n, got, code)
	}
}

// initial fails if the answer to Initial is another code.
func initial(t *testing.T, b *window.Book, n, code uint32) {
	t.Helper()
	if got := b.Initial(n); got != code {
		t.Errorf("Initial(%d) = %d, want %d", n, got, code)
	}
}

// takes fails if others than so many are taken.
func takes(t *testing.T, b *window.Book, id uint32, want, got int) {
	t.Helper()
	if n := b.Take(id, want); n != got {
		t.Errorf("Take(%d, %d) = %d, want %d", id, want, n, got)
	}
}

// opened is a book of which some streams are open.
func opened(ids ...uint32) *window.Book {
	b := window.New()
	for _, id := range ids {
		b.Open(id)
	}
	return b
}

// wide is a book whose connection lets come as much as may be, of which some streams are open.
func wide(ids ...uint32) *window.Book {
	b := opened(ids...)
	b.Grow(0, most-start)
	return b
}
