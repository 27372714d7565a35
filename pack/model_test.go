package pack_test

import (
	"fmt"
	"math/rand"
	"slices"
	"strings"
	"testing"

	"nuncio/api"
	"nuncio/huff"
	"nuncio/pack"
	"nuncio/unpack"
)

// P13.1 held against a model that goes by lists of all that there is, and P13.2 against layer 12's decoder.

// fixed are the fixed entries.
var fixed = func() (all []api.Field) {
	for n := 1; n <= 61; n++ {
		all = append(all, entry(n))
	}
	return all
}()

// bitsOf are the lengths of the bytes' codes.
var bitsOf = func() (all [256]int) {
	for c := range all {
		_, all[c] = huff.Code(c)
	}
	return all
}()

// model is an encoder.
type model struct {
	// sizes are the table's, one behind the other: that of the last Write first.
	sizes []int
	// there: the youngest first.
	there []api.Field
	// count: how often each thing came to pass.
	count map[string]int
}

func newModel() *model { return &model{sizes: []int{4096}, count: map[string]int{}} }

// most is the table's greatest size.
func (m *model) most() int { return m.sizes[len(m.sizes)-1] }

// keep leaves as many of the youngest as there is room for.
func (m *model) keep() {
	sum := 0
	for i, f := range m.there {
		if sum += counted(f); sum > m.most() {
			m.there = m.there[:i:i]
			m.count["gone"]++
			return
		}
	}
}

// limit is what Limit does.
func (m *model) limit(n uint32) {
	if n = min(n, 4096); int(n) != m.most() {
		m.sizes = append(m.sizes, int(n))
		m.keep()
	}
}

// write is what Write should answer.
func (m *model) write(fields []api.Field) string {
	block := ""
	if given := m.sizes[1:]; len(given) > 0 {
		tell := slices.Compact([]int{slices.Min(given), m.most()})
		for _, n := range tell {
			block += size(n)
		}
		m.count[fmt.Sprint("sizes ", len(tell))]++
	}
	m.sizes = []int{m.most()}
	for _, f := range fields {
		block += m.field(f)
	}
	return block
}

// field is how one is laid.
func (m *model) field(f api.Field) string {
	all := append(slices.Clone(fixed), m.there...)
	whole := 1 + slices.Index(all, field(f.Name, f.Value))
	named := 1 + slices.IndexFunc(all, func(g api.Field) bool { return g.Name == f.Name })
	switch {
	case f.Never && whole > 0:
		m.count["never, whole"]++
		return neverLaid(whole, m.text(f.Value))
	case f.Never:
		m.count["never"]++
		return neverLaid(named, m.texts(f, named))
	case whole > 0:
		m.count["whole"]++
		return index(whole)
	case counted(f) > m.most():
		m.count["other"]++
		return other(named, m.texts(f, named))
	}
	m.count["added"]++
	m.there = append([]api.Field{f}, m.there...)
	m.keep()
	return added(named, m.texts(f, named))
}

// texts are what stands behind the number of a name, whether it is 0 or not.
func (m *model) texts(f api.Field, named int) string {
	if named > 0 {
		m.count["named"]++
		return m.text(f.Value)
	}
	m.count["spelt"]++
	return m.text(f.Name) + m.text(f.Value)
}

// text is one in the way in which it is the shorter.
func (m *model) text(s string) string {
	bits := 0
	for _, c := range []byte(s) {
		bits += bitsOf[c]
	}
	if bits > 8*(len(s)-1) {
		m.count["plain"]++
		return plain(s)
	}
	m.count["coded"]++
	return coded(s)
}

// three is an encoder, its model, and the decoder of its blocks.
type three struct {
	c *pack.Encoder
	m *model
	d *unpack.Decoder
}

func newThree() *three { return &three{pack.New(), newModel(), unpack.New()} }

// limit tells a limit to the first two.
func (x *three) limit(t *testing.T, n uint32) {
	t.Helper()
	x.c.Limit(n)
	x.m.limit(n)
}

// write fails if the block is another one than the model's, or is read as other fields.
func (x *three) write(t *testing.T, fields ...api.Field) {
	t.Helper()
	want := x.m.write(fields)
	got := x.c.Write(fields...)
	if got != want {
		t.Fatalf("Write(%s) = %s, want %s", toldFields(fields), told(got), told(want))
	}
	if read, e := x.d.Read(got); e != api.OK || !slices.Equal(read, fields) {
		t.Fatalf("%s is read as %s, %d, want %s", told(got), toldFields(read), e, toldFields(fields))
	}
}

// same fails if the three have not the same table. (Between a Limit and a Write the decoder's may be another one.)
func (x *three) same(t *testing.T, decoder bool) {
	t.Helper()
	holds(t, x.c, x.m.most(), x.m.there...)
	if decoder {
		tableHolds(t, x.d.Table(), x.m.most(), x.m.there...)
	}
	if t.Failed() {
		t.FailNow()
	}
}

// came fails if some thing didn't come to pass that often.
func came(t *testing.T, count map[string]int, least int) {
	t.Helper()
	for _, what := range []string{"gone", "sizes 1", "sizes 2", "never, whole", "never", "whole", "other", "added", "named", "spelt", "plain", "coded"} {
		if count[what] < least {
			t.Errorf("%s: %d times", what, count[what])
		}
	}
}

// step is a limit, or a Write.
type step struct {
	limit  uint32
	fields []api.Field
}

// All sequences of up to so many steps; a Write stands behind each.
func TestAllSequencesOfSteps(t *testing.T) {
	write := func(fields ...api.Field) step { return step{fields: append([]api.Field{}, fields...)} }
	x, y, great := field("x", "1"), field("x", "aaa"), field("custom-key", bare(60))
	steps := []step{
		{limit: 0}, {limit: 34}, {limit: 70}, {limit: 110}, {limit: 4096}, {limit: 1 << 31},
		write(), write(x), write(x, y), write(y, never("x", "aaa")), write(great, never("custom-key", "v")), write(field(":method", "PUT"), entry(2), never(":method", "PUT")),
	}
	count := map[string]int{}
	var walk func(done []step)
	walk = func(done []step) {
		all := newThree()
		all.m.count = count
		for _, s := range append(done[:len(done):len(done)], write()) {
			if s.fields == nil {
				all.limit(t, s.limit)
			} else {
				all.write(t, s.fields...)
			}
		}
		all.same(t, true)
		if len(done) == 4 {
			return
		}
		for _, s := range steps {
			walk(append(done[:len(done):len(done)], s))
		}
	}
	walk(nil)
	came(t, count, 1000)
}

// generatedText is a text of few signs, mostly a short one.
func generatedText(r *rand.Rand) string {
	s := strings.Repeat(string("abcx0\xff"[r.Intn(6)]), r.Intn(4))
	switch r.Intn(40) {
	case 0:
		s = strings.Repeat("v", r.Intn(400))
	case 1:
		s = strings.Repeat("\x00", r.Intn(400))
	case 2:
		s = bare(4000 + r.Intn(120))
	case 3, 4, 5:
		b := make([]byte, r.Intn(12))
		r.Read(b)
		s = string(b)
	}
	return s
}

// generatedField is a new one, one that is there, or one of which the name is there.
func generatedField(r *rand.Rand, m *model) api.Field {
	f := field(generatedText(r), generatedText(r))
	all := fixed
	if len(m.there) > 0 && r.Intn(3) > 0 {
		all = m.there
	}
	switch r.Intn(4) {
	case 0:
		f = all[r.Intn(len(all))]
	case 1:
		f.Name = all[r.Intn(len(all))].Name
	case 2:
		if r.Intn(8) == 0 {
			// Just as great as the table, or about that.
			f.Value = bare(max(m.most()-32-len(f.Name)+r.Intn(3)-1, 0))
		}
	}
	f.Never = r.Intn(5) == 0
	return f
}

// generatedLimit is one beside what is there, beside what was given lately, or any.
func generatedLimit(r *rand.Rand, m *model) uint32 {
	sum := 0
	for _, f := range m.there[:r.Intn(len(m.there)+1)] {
		sum += counted(f)
	}
	switch r.Intn(8) {
	case 0:
		return r.Uint32()
	case 1, 2:
		return uint32(r.Intn(4200))
	case 3, 4:
		return uint32(max(m.sizes[r.Intn(len(m.sizes))]+r.Intn(3)-1, 0))
	case 5:
		return 4096
	}
	return uint32(max(sum+r.Intn(3)-1, 0))
}

func TestGeneratedSteps(t *testing.T) {
	r := rand.New(rand.NewSource(13))
	count := map[string]int{}
	most := 0
	for range 2500 {
		x := newThree()
		x.m.count = count
		for range 1 + r.Intn(30) {
			for range max(r.Intn(7)-3, 0) {
				x.limit(t, generatedLimit(r, x.m))
				x.same(t, false)
			}
			var fields []api.Field
			for range r.Intn(10) {
				fields = append(fields, generatedField(r, x.m))
			}
			x.write(t, fields...)
			x.same(t, true)
			most = max(most, len(x.m.there))
		}
	}
	came(t, count, 1000)
	if most < 40 {
		t.Errorf("at most %d entries", most)
	}
}
