package window_test

import (
	"fmt"
	"math"
	"math/rand"
	"strings"
	"testing"

	"nuncio/window"
)

// All four promises held against a reckoning that has no windows: it counts what was let come and what was taken, a row for each time that a stream was open.

// row is a stream from when it was opened on.
type row struct {
	id        uint32
	open      bool
	let, went int64
}

// ledger is what was told of a connection. What let come first counts for all that are open.
type ledger struct {
	first     int64
	let, went int64
	rows      []row
}

func newLedger() *ledger { return &ledger{first: 65535, let: 65535} }

// of is the row of a stream that is open.
func (l *ledger) of(id uint32) *row {
	for i := len(l.rows) - 1; i >= 0; i-- {
		if l.rows[i].id == id && l.rows[i].open {
			return &l.rows[i]
		}
	}
	return nil
}

func (l *ledger) drop(id uint32) {
	if r := l.of(id); r != nil {
		r.open = false
	}
}

func (l *ledger) open(id uint32) {
	l.drop(id)
	l.rows = append(l.rows, row{id: id, open: true})
}

func (l *ledger) grow(id, n uint32) uint32 {
	let, room := &l.let, l.went-l.let
	if id != 0 {
		r := l.of(id)
		if r == nil {
			return 0
		}
		let, room = &r.let, r.went-r.let-l.first
	}
	if room += math.MaxInt32; int64(n) > room {
		return 3
	}
	*let += int64(n)
	return 0
}

func (l *ledger) initial(n uint32) uint32 {
	highest := int64(0)
	for _, r := range l.rows {
		if r.open {
			highest = max(highest, r.let-r.went)
		}
	}
	if highest+int64(n) > math.MaxInt32 {
		return 3
	}
	l.first = int64(n)
	return 0
}

func (l *ledger) take(id uint32, want int) int {
	r := l.of(id)
	if r == nil || want <= 0 {
		return 0
	}
	n := int64(want)
	for _, left := range []int64{l.let - l.went, l.first + r.let - r.went} {
		if left <= 0 {
			return 0
		}
		if n > left {
			n = left
		}
	}
	r.went += n
	l.went += n
	return int(n)
}

// windows are what a book has to tell, of the streams that may be named.
func (l *ledger) windows() string {
	var b strings.Builder
	fmt.Fprint(&b, l.let-l.went)
	for _, id := range named {
		if r := l.of(id); r != nil {
			fmt.Fprint(&b, " ", id, ":", l.first+r.let-r.went)
		}
	}
	return b.String()
}

// told is what a book tells, in that form.
func told(b *window.Book) string {
	var s strings.Builder
	fmt.Fprint(&s, b.Conn())
	for _, id := range named {
		w, ok := b.Of(id)
		if ok {
			fmt.Fprint(&s, " ", id, ":", w)
		} else if w != 0 {
			fmt.Fprint(&s, " ", id, " isn't open and has ", w)
		}
	}
	return s.String()
}

// named are the streams that the rows of calls name.
var named = []uint32{1, 2, 3, 5, 7, 11, 1<<31 - 1, most32}

// call is one of a book's.
type call struct {
	what  string
	id, n uint32
	want  int
}

func (c call) String() string {
	switch c.what {
	case "take":
		return fmt.Sprintf("Take(%d, %d)", c.id, c.want)
	case "grow":
		return fmt.Sprintf("Grow(%d, %d)", c.id, c.n)
	case "initial":
		return fmt.Sprintf("Initial(%d)", c.n)
	}
	return fmt.Sprintf("%s(%d)", c.what, c.id)
}

// tell tells a book of a call: its answer.
func (c call) tell(b *window.Book) int {
	switch c.what {
	case "open":
		b.Open(c.id)
	case "drop":
		b.Drop(c.id)
	case "grow":
		return int(b.Grow(c.id, c.n))
	case "initial":
		return int(b.Initial(c.n))
	case "take":
		return b.Take(c.id, c.want)
	}
	return 0
}

// reckon is what the answer has to be.
func (c call) reckon(l *ledger) int {
	switch c.what {
	case "open":
		l.open(c.id)
	case "drop":
		l.drop(c.id)
	case "grow":
		return int(l.grow(c.id, c.n))
	case "initial":
		return int(l.initial(c.n))
	case "take":
		return l.take(c.id, c.want)
	}
	return 0
}

// few are calls of which all short rows are made.
var few = []call{
	{what: "open", id: 1}, {what: "open", id: 3}, {what: "drop", id: 1},
	{what: "grow", id: 0, n: 1}, {what: "grow", id: 0, n: most - start}, {what: "grow", id: 0, n: most32},
	{what: "grow", id: 1, n: 1}, {what: "grow", id: 1, n: most - start}, {what: "grow", id: 1, n: most}, {what: "grow", id: 1, n: most32 - 1},
	{what: "initial", n: 0}, {what: "initial", n: 1}, {what: "initial", n: start + 1}, {what: "initial", n: most}, {what: "initial", n: most + 1},
	{what: "take", id: 1, want: 1}, {what: "take", id: 1, want: start}, {what: "take", id: 1, want: math.MaxInt}, {what: "take", id: 3, want: start}, {what: "take", id: 3, want: -1},
}

// Each row of four of the few calls, behind a stream that is open or not, and all short ones by that.
func TestAllShortRows(t *testing.T) {
	var calls []call
	var more func()
	more = func() {
		b, l := window.New(), newLedger()
		for i, c := range calls {
			got, want := c.tell(b), c.reckon(l)
			if i == len(calls)-1 && (got != want || told(b) != l.windows() || int64(firstOf(b)) != l.first) {
				t.Fatalf("%v: %d, then %s and %d, want %d, then %s and %d", calls, got, told(b), firstOf(b), want, l.windows(), l.first)
			}
		}
		if len(calls) == 4 {
			return
		}
		for _, c := range few {
			calls = append(calls, c)
			more()
			calls = calls[:len(calls)-1]
		}
	}
	more()
}

// number is one that a row of calls names: often one at which something changes just then.
func number(r *rand.Rand, l *ledger) int64 {
	near := []int64{0, 1, start, most, most + 1, most32, l.first, l.let - l.went, most - (l.let - l.went)}
	for _, id := range named {
		if s := l.of(id); s != nil {
			w := l.first + s.let - s.went
			near = append(near, w, -w, most-w, most-w+l.first)
		}
	}
	switch r.Intn(4) {
	case 0:
		return r.Int63n(1 << uint(1+r.Intn(33)))
	case 1:
		return r.Int63n(200)
	}
	return near[r.Intn(len(near))] + r.Int63n(3) - 1
}

// someCall is any, with some number.
func someCall(r *rand.Rand, l *ledger) call {
	id := named[r.Intn(len(named))]
	n := number(r, l)
	of32 := uint32(min(max(n, 0), most32))
	switch r.Intn(12) {
	case 0, 1:
		return call{what: "open", id: id}
	case 2:
		return call{what: "drop", id: id}
	case 3, 4:
		return call{what: "grow", n: of32}
	case 5, 6:
		return call{what: "grow", id: id, n: of32}
	case 7, 8:
		return call{what: "initial", n: of32}
	}
	return call{what: "take", id: id, want: int(n)}
}

// Long rows of calls on many streams.
func TestManyCalls(t *testing.T) {
	answers := map[string]int{}
	for seed := range int64(400) {
		r := rand.New(rand.NewSource(seed))
		b, l := window.New(), newLedger()
		for i := range 400 {
			c := someCall(r, l)
			got, want := c.tell(b), c.reckon(l)
			if got != want || told(b) != l.windows() {
				t.Fatalf("row %d, call %d, %v: %d, then %s, want %d, then %s", seed, i, c, got, told(b), want, l.windows())
			}
			if i%16 == 0 && int64(firstOf(b)) != l.first {
				t.Fatalf("row %d, call %d, %v: the first window is %d, want %d", seed, i, c, firstOf(b), l.first)
			}
			if got > 0 {
				answers[c.what]++
			}
		}
	}
	// Rows in which nothing is refused, or nothing taken, would show little.
	for _, what := range []string{"grow", "initial", "take"} {
		if answers[what] < 3000 {
			t.Errorf("only %d answers of %s are above 0", answers[what], what)
		}
	}
}

// P17.4: whatever is told, no more is taken than was let come: of a stream since it was opened, and of all together.
func TestNeverIsMoreTakenThanWasLetCome(t *testing.T) {
	for seed := range int64(300) {
		r := rand.New(rand.NewSource(1000 + seed))
		b := window.New()
		// What was let come, told apart from the answers to Take.
		first, all, went := int64(start), int64(start), int64(0)
		let, gone := map[uint32]int64{}, map[uint32]int64{}
		for range 500 {
			id := named[r.Intn(len(named))]
			n := uint32(r.Int63n(1 << uint(1+r.Intn(31))))
			switch r.Intn(8) {
			case 0:
				b.Open(id)
				let[id], gone[id] = 0, 0
			case 1:
				b.Drop(id)
				delete(let, id)
			case 2:
				if b.Grow(0, n) == fine {
					all += int64(n)
				}
			case 3:
				if _, ok := let[id]; b.Grow(id, n) == fine && ok {
					let[id] += int64(n)
				}
			case 4:
				if b.Initial(n) == fine {
					first = int64(n)
				}
			default:
				want := int(r.Int63n(1 << uint(1+r.Intn(34))))
				got := int64(b.Take(id, want))
				_, open := let[id]
				went += got
				gone[id] += got
				if got < 0 || got > int64(want) || got > 0 && (!open || gone[id] > first+let[id] || went > all) {
					t.Fatalf("row %d: Take(%d, %d) = %d, open: %t, taken: %d of %d, and %d of %d of all", seed, id, want, got, open, gone[id], first+let[id], went, all)
				}
			}
		}
	}
}

// Nor is less: taken byte by byte, or as much as there is, all that was let come can be taken.
func TestAllThatWasLetComeCanBeTaken(t *testing.T) {
	for _, step := range []int{1, 7, 1000, start, math.MaxInt} {
		b := opened(1, 3)
		grows(t, b, 0, 1000, fine)
		grows(t, b, 1, 500, fine)
		initial(t, b, 30000, fine)
		b.Open(5)
		sums := map[uint32]int{}
		for _, id := range []uint32{5, 3, 1} {
			for n := b.Take(id, step); n > 0; n = b.Take(id, step) {
				sums[id] += n
			}
		}
		if sums[5] != 30000 || sums[3] != 30000 || sums[1] != 6535 {
			t.Errorf("by %d: %v", step, sums)
		}
		holds(t, b, 0, 30000, streams{1: 30500 - 6535, 3: 0, 5: 0})
	}
}

// Opening a stream anew doesn't let more come of all together.
func TestTheConnectionsWindowBindsAllStreams(t *testing.T) {
	b := window.New()
	sum := 0
	for i := range uint32(100) {
		b.Open(i % 7)
		sum += b.Take(i%7, 1000)
		if i%3 == 0 {
			b.Drop(i % 7)
		}
	}
	if sum != start || b.Conn() != 0 {
		t.Errorf("%d were taken, %d are left", sum, b.Conn())
	}
}

// Two books, told by turns, are as if each were alone.
func TestTwoBooksAreApart(t *testing.T) {
	for seed := range int64(100) {
		r := rand.New(rand.NewSource(5000 + seed))
		books := []*window.Book{window.New(), window.New()}
		ledgers := []*ledger{newLedger(), newLedger()}
		for i := range 300 {
			k := r.Intn(2)
			c := someCall(r, ledgers[k])
			got, want := c.tell(books[k]), c.reckon(ledgers[k])
			if got != want {
				t.Fatalf("row %d, call %d, %v: %d, want %d", seed, i, c, got, want)
			}
			for j := range books {
				if told(books[j]) != ledgers[j].windows() {
					t.Fatalf("row %d, call %d, %v, of book %d: book %d is %s, want %s", seed, i, c, k, j, told(books[j]), ledgers[j].windows())
				}
			}
		}
	}
}

func TestABookBesideAnother(t *testing.T) {
	a, b := opened(1), opened(1, 3)
	takes(t, a, 1, 100, 100)
	initial(t, a, 5, fine)
	a.Drop(1)
	a.Open(7)
	grows(t, a, 0, 9, fine)
	holds(t, a, start-91, 5, streams{7: 5})
	holds(t, b, start, start, streams{1: start, 3: start})
	holds(t, window.New(), start, start, nil)
}

// The same calls, told to another book, have the same answers.
func TestTheSameCallsHaveTheSameAnswers(t *testing.T) {
	r := rand.New(rand.NewSource(9))
	l := newLedger()
	first := window.New()
	var calls []call
	var answers []int
	for range 2000 {
		c := someCall(r, l)
		c.reckon(l)
		calls = append(calls, c)
		answers = append(answers, c.tell(first))
	}
	for range 20 {
		b := window.New()
		for i, c := range calls {
			if got := c.tell(b); got != answers[i] {
				t.Fatalf("call %d, %v: %d, then %d", i, c, answers[i], got)
			}
		}
		if told(b) != told(first) {
			t.Fatalf("%s, then %s", told(first), told(b))
		}
	}
}
