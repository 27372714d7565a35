package table_test

import (
	"fmt"
	"math"
	"math/rand"
	"slices"
	"strings"
	"testing"

	"nuncio/table"
)

// P11.1 to P11.3 held against a model that knows all that ever came, and how many of them are there.

// model is a table's history.
type model struct {
	most  int
	came  []field
	there int
}

// youngest are so many of those that came, the youngest first.
func (m *model) youngest(n int) []field {
	all := slices.Clone(m.came[len(m.came)-n:])
	slices.Reverse(all)
	return all
}

// keep leaves the most of the youngest that there is room for.
func (m *model) keep(room int) {
	for m.there > 0 && sum(m.youngest(m.there)) > room {
		m.there--
	}
}

func (m *model) resize(most int) {
	m.most = most
	if most < 0 {
		m.most = 0
	}
	m.keep(m.most)
}

func (m *model) add(f field) {
	m.keep(m.most - f.size())
	if f.size() > m.most {
		if m.there != 0 {
			panic("one that has no room, and yet some are there")
		}
		return
	}
	m.came = append(m.came, f)
	m.there++
}

func (m *model) copy() *model { return &model{m.most, slices.Clone(m.came), m.there} }

// find asks the fixed entries and the table's in one list.
func (m *model) find(f field) (n int, whole bool) {
	all := slices.Concat(fixed, m.youngest(m.there))
	if i := slices.Index(all, f); i >= 0 {
		return i + 1, true
	}
	return slices.IndexFunc(all, func(g field) bool { return g[0] == f[0] }) + 1, false
}

// holds fails if a table is otherwise.
func (m *model) holds(t *testing.T, x *table.Table, asked ...field) {
	t.Helper()
	holds(t, x, m.most, m.youngest(m.there)...)
	for _, f := range asked {
		n, whole := m.find(f)
		finds(t, x, f[0], f[1], n, whole)
	}
}

// taken is a step on a table and on its model.
type taken struct {
	name  string
	table func(x *table.Table)
	model func(m *model)
}

func adding(f field) taken {
	return taken{fmt.Sprintf("Add %q %d", f[0], f.size()), func(x *table.Table) { add(x, f) }, func(m *model) { m.add(f) }}
}

func resizing(most int) taken {
	return taken{fmt.Sprint("Resize ", most), func(x *table.Table) { x.Resize(most) }, func(m *model) { m.resize(most) }}
}

// All sequences of up to five steps out of some whose sizes meet at their edges, each step on a copy.
func TestAllShortSequences(t *testing.T) {
	all := []taken{adding(field{"", ""}), adding(field{"a", "b"}), adding(sized(":path", 67)), adding(sized("b", 100)),
		resizing(-1), resizing(33), resizing(65), resizing(66), resizing(99), resizing(200)}
	asked := []field{{"", ""}, {"a", "c"}, sized(":path", 67)}
	for _, most := range []int{66, 100} {
		var walk func(x *table.Table, m *model, done []string)
		walk = func(x *table.Table, m *model, done []string) {
			m.holds(t, x, asked...)
			if t.Failed() {
				t.Fatalf("New %d, %s", most, strings.Join(done, ", "))
			}
			if len(done) == 5 {
				return
			}
			for _, s := range all {
				y, n := x.Copy(), m.copy()
				s.table(y)
				s.model(n)
				walk(y, n, append(done[:len(done):len(done)], s.name))
			}
			m.holds(t, x, asked...)
		}
		walk(table.New(most), &model{most: most}, nil)
	}
}

// generated is a field of few names and values, some of them fixed ones.
func generated(r *rand.Rand) field {
	switch r.Intn(8) {
	case 0, 1:
		f := fixed[r.Intn(len(fixed))]
		return field{f[0], f[1] + strings.Repeat("x", r.Intn(2))}
	case 2:
		return field{strings.Repeat("n", r.Intn(300)), strings.Repeat("v", r.Intn(300))}
	}
	return field{string("abcde"[r.Intn(5)]), strings.Repeat("v", r.Intn(5))}
}

// size is a greatest size, or one beside what is there.
func (m *model) size(r *rand.Rand) int {
	switch r.Intn(5) {
	case 0:
		return r.Intn(5000) - 100
	case 1:
		return []int{math.MinInt, -1, 0, 31, 32, 4096, math.MaxInt}[r.Intn(7)]
	}
	return sum(m.youngest(r.Intn(m.there+1))) + r.Intn(3) - 1
}

// fits is a field that is about as great as the room that comes by so many going.
func (m *model) fits(r *rand.Rand) field {
	room := min(m.most, 5000) - sum(m.youngest(r.Intn(m.there+1))) + r.Intn(3) - 1
	return sized("n", max(room, 33))
}

func TestGeneratedTablesAndTheirCopies(t *testing.T) {
	r := rand.New(rand.NewSource(21))
	longest, dropped := 0, 0
	for range 300 {
		most := r.Intn(4000)
		all, models := []*table.Table{table.New(most)}, []*model{{most: most}}
		for range 200 {
			i := r.Intn(len(all))
			x, m := all[i], models[i]
			was := m.there
			switch n := r.Intn(40); {
			case n < 1:
				size := m.size(r)
				x.Resize(size)
				m.resize(size)
			case n < 3 && len(all) < 5:
				all, models = append(all, x.Copy()), append(models, m.copy())
			case n < 8:
				f := m.fits(r)
				add(x, f)
				m.add(f)
			default:
				f := generated(r)
				add(x, f)
				m.add(f)
			}
			longest = max(longest, m.there)
			if m.there < was {
				dropped++
			}
			for j := range all {
				models[j].holds(t, all[j], generated(r), generated(r))
			}
			if m.there > 0 {
				models[i].holds(t, all[i], m.youngest(m.there)[r.Intn(m.there)])
			}
			if t.Failed() {
				t.FailNow()
			}
		}
	}
	if longest < 60 || dropped < 5000 {
		t.Errorf("at most %d entries, and %d times some went", longest, dropped)
	}
}
