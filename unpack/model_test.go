package unpack_test

import (
	"cmp"
	"math/rand"
	"slices"
	"strings"
	"testing"

	"nuncio/api"
	"nuncio/huff"
	"nuncio/unpack"
)

// P12.1 to P12.3 held against a model that takes a block apart as far as it can be, whatever its integers mean, notes all that is wrong in it, and tells what of that stands furthest in front.

// part is a representation: its row, its integer, and its texts.
type part struct {
	row         row
	n           uint64
	name, value string
}

// flaw is something that is wrong: in which representation, at which step of it, and how.
type flaw struct {
	part, step int
	told       api.Errno
}

// The steps of a representation, in the order in which they are told.
const (
	stepFirst = iota
	stepInteger
	stepMeaning
	stepName
	stepValue
)

// takenInteger is the integer with which s begins, and what stands behind it; or how it is wrong.
func takenInteger(s string, bits int) (n uint64, rest string, e api.Errno) {
	if s == "" {
		return 0, "", api.ErrShort
	}
	most := uint64(1)<<bits - 1
	if low := uint64(s[0]) & most; low < most {
		return low, s[1:], api.OK
	}
	last := 1
	for last < len(s) && s[last] >= 128 {
		last++
	}
	switch {
	case last > 5:
		return 0, "", api.ErrInteger
	case last == len(s):
		return 0, "", api.ErrShort
	}
	for i := last; i > 0; i-- {
		n = n*128 + uint64(s[i]%128)
	}
	if n += most; n >= 1<<32 {
		return 0, "", api.ErrInteger
	}
	return n, s[last+1:], api.OK
}

// takenText is the text with which s begins, and what stands behind it, if that can be said at all (on); or how it is wrong.
func takenText(s string) (text, rest string, on bool, e api.Errno) {
	n, rest, e := takenInteger(s, 7)
	if e != api.OK {
		return "", "", false, e
	}
	if n > uint64(len(rest)) {
		return "", "", false, api.ErrShort
	}
	text, rest = rest[:n], rest[n:]
	if s[0] >= 128 {
		text, e = huff.Decode(text)
	}
	return text, rest, true, e
}

// apart is the parts of a block, and what is wrong in them by themselves.
func apart(block string) (parts []part, flaws []flaw) {
	for on := true; on && block != ""; {
		at := len(parts)
		parts = append(parts, part{})
		p := &parts[at]
		wrong := func(step int, e api.Errno) {
			if e != api.OK {
				flaws = append(flaws, flaw{at, step, e})
			}
		}
		p.row = rows[slices.IndexFunc(rows, func(r row) bool { return int(block[0])>>r.bits == r.mark>>r.bits })]
		var e api.Errno
		p.n, block, e = takenInteger(block, p.row.bits)
		wrong(stepInteger, e)
		on = e == api.OK
		if p.row.name == "index" || p.row.name == "size" {
			continue
		}
		if on && p.n == 0 {
			p.name, block, on, e = takenText(block)
			wrong(stepName, e)
		}
		if on {
			p.value, block, on, e = takenText(block)
			wrong(stepValue, e)
		}
	}
	return parts, flaws
}

// fixed are the fixed entries.
var fixed = func() (all []api.Field) {
	for n := 1; n <= 61; n++ {
		all = append(all, entry(n))
	}
	return all
}()

// model is a decoder.
type model struct {
	most int
	// there: the youngest first.
	there []api.Field
	down  bool
	// count: how often each error was told.
	count map[api.Errno]int
}

// keep leaves as many of the youngest as there is room for.
func (m *model) keep() {
	sum := 0
	for i, f := range m.there {
		if sum += counted(f); sum > m.most {
			m.there = m.there[:i:i]
			return
		}
	}
}

// at is the entry of a number.
func (m *model) at(n uint64) (api.Field, bool) {
	all := len(fixed) + len(m.there)
	switch {
	case n == 0 || n > uint64(all):
		return api.Field{}, false
	case n > uint64(len(fixed)):
		return m.there[n-1-uint64(len(fixed))], true
	}
	return fixed[n-1], true
}

// meant is the field of a part, and whether there is one.
func (m *model) meant(p part) (api.Field, bool) {
	f := api.Field{Name: p.name, Value: p.value, Never: p.row.name == "never"}
	if p.n == 0 && p.row.name != "index" {
		return f, true
	}
	known, ok := m.at(p.n)
	f.Name = known.Name
	if p.row.name == "index" {
		f.Value = known.Value
	}
	return f, ok
}

// read is what Read should answer.
func (m *model) read(block string) ([]api.Field, api.Errno) {
	if m.down {
		m.count[api.ErrState]++
		return nil, api.ErrState
	}
	parts, flaws := apart(block)
	var fields []api.Field
	for i, p := range parts {
		f, known := m.meant(p)
		size := p.row.name == "size"
		if size && (p.n > 4096 || len(fields) > 0) {
			flaws = append(flaws, flaw{i, stepMeaning, api.ErrResize})
		}
		if !size && !known {
			flaws = append(flaws, flaw{i, stepMeaning, api.ErrIndex})
		}
		if !size && len(fields) == 64 {
			flaws = append(flaws, flaw{i, stepFirst, api.ErrList})
		}
		if len(flaws) > 0 {
			first := slices.MinFunc(flaws, func(a, b flaw) int {
				return cmp.Or(cmp.Compare(a.part, b.part), cmp.Compare(a.step, b.step))
			})
			if first.part == i {
				m.down = true
				m.count[first.told]++
				return nil, first.told
			}
		}
		if size {
			m.most = int(p.n)
		} else {
			fields = append(fields, f)
		}
		if p.row.name == "added" {
			m.there = append([]api.Field{f}, m.there...)
		}
		m.keep()
	}
	m.count[api.OK]++
	return fields, api.OK
}

func newModel() *model { return &model{most: 4096, count: map[api.Errno]int{}} }

// agree fails if a decoder reads a block otherwise than its model.
func agree(t *testing.T, d *unpack.Decoder, m *model, block string) {
	t.Helper()
	want, wantError := m.read(block)
	got, e := d.Read(block)
	if e != wantError || !slices.Equal(got, want) || d.Down() != m.down {
		t.Fatalf("Read(%q) = %s, %d, want %s, %d", block, toldFields(got), e, toldFields(want), wantError)
	}
}

// agreeInAll is that, and its table with it.
func agreeInAll(t *testing.T, d *unpack.Decoder, m *model, block string) {
	t.Helper()
	agree(t, d, m, block)
	holds(t, d, m.most, m.there...)
	if t.Failed() {
		t.Fatalf("behind %q", block)
	}
}

// counts fails if some error wasn't told that often.
func (m *model) counts(t *testing.T, least int, all ...api.Errno) {
	t.Helper()
	for _, e := range all {
		if m.count[e] < least {
			t.Errorf("error %d was told %d times", e, m.count[e])
		}
	}
}

// each calls something with all texts of up to so many of these pieces.
func each(pieces []string, most int, do func(s string)) {
	var walk func(s string, left int)
	walk = func(s string, left int) {
		do(s)
		for _, p := range pieces {
			if left > 0 {
				walk(s+p, left-1)
			}
		}
	}
	walk("", most)
}

// begun is a decoder with two entries, and its model.
func begun(t *testing.T) (*unpack.Decoder, *model) {
	d, m := unpack.New(), newModel()
	agreeInAll(t, d, m, size(110)+add(field("a", "1"))+add(field("b", "2")))
	return d, m
}

func TestAllBlocksOfUpToTwoBytes(t *testing.T) {
	var all []string
	for c := range 256 {
		all = append(all, string([]byte{byte(c)}))
	}
	count := map[api.Errno]int{}
	each(all, 2, func(s string) {
		d, m := begun(t)
		m.count = count
		agreeInAll(t, d, m, s)
	})
}

// Of few bytes, of which one stands fourfold, too, so that integers are too great.
func TestAllBlocksOfAFewBytes(t *testing.T) {
	count := map[api.Errno]int{}
	each([]string{"\x00", "\x01", "\x0f", "\x10", "\x20", "\x3f", "\x40", "\x41", "\x7e", "\x80", "\x81", "\xbf", "\xc0", "\xff", "\xff\xff\xff\xff"}, 5, func(s string) {
		d, m := begun(t)
		m.count = count
		agree(t, d, m, s)
	})
	(&model{count: count}).counts(t, 1000, api.OK, api.ErrShort, api.ErrInteger, api.ErrPadding, api.ErrIndex, api.ErrResize)
}

// All sequences of up to three representations, as one block and as blocks of their own.
func TestAllSequencesOfRepresentations(t *testing.T) {
	pieces := []string{size(0), size(68), size(110), size(4096), index(2), index(62), index(63), index(64), added("c", "3"), added("long", "value"), addedAt(2, "PUT"), addedAt(62, ""), addedAt(63, "4"),
		added("great", strings.Repeat("v", 100)), neverAdded("d", "4"), rows[2].named(62, "x"), other("e", "5"), rows[3].named(63, "y"), "\x40" + coded("custom-key") + coded("custom-value")}
	for _, w := range wrongs() {
		pieces = append(pieces, w.block)
	}
	count := map[api.Errno]int{}
	for _, a := range pieces {
		for _, b := range pieces {
			for _, c := range pieces {
				d, m := begun(t)
				m.count = count
				agreeInAll(t, d, m, a+b+c)
				agree(t, d, m, index(62))
				d, m = begun(t)
				m.count = count
				agree(t, d, m, a)
				agree(t, d, m, b)
				agreeInAll(t, d, m, c)
			}
		}
	}
	(&model{count: count}).counts(t, 1000, api.OK, api.ErrShort, api.ErrState, api.ErrInteger, api.ErrPadding, api.ErrIndex, api.ErrResize)
}

// generatedText is a text of few signs, mostly a short one.
func generatedText(r *rand.Rand) string {
	s := some(r.Intn(4), string("abcx0\xff"[r.Intn(6)]))
	switch r.Intn(30) {
	case 0:
		s = some(r.Intn(400), "v")
	case 1:
		s = some(4000+r.Intn(120), "v")
	}
	if r.Intn(3) == 0 {
		return coded(s)
	}
	return plain(s)
}

// generatedIndex is the number of an entry, of the one behind the last, or a bit more.
func generatedIndex(r *rand.Rand, m *model) int {
	last := len(fixed) + len(m.there)
	switch r.Intn(10) {
	case 0, 1, 2:
		return 1 + r.Intn(len(fixed))
	case 3:
		return last
	case 4:
		if r.Intn(12) == 0 {
			return last + r.Intn(3)
		}
	}
	return 1 + r.Intn(last)
}

// generatedPart is a representation of a field that is mostly right.
func generatedPart(r *rand.Rand, m *model) string {
	row := rows[r.Intn(4)]
	switch {
	case row.name == "index":
		return index(generatedIndex(r, m))
	case r.Intn(2) == 0:
		return row.integer(generatedIndex(r, m)) + generatedText(r)
	}
	return row.integer(0) + generatedText(r) + generatedText(r)
}

// generatedSize is a size, or one beside what is there.
func generatedSize(r *rand.Rand, m *model) string {
	sum := 0
	for _, f := range m.there[:r.Intn(len(m.there)+1)] {
		sum += counted(f)
	}
	switch r.Intn(6) {
	case 0:
		return size(4096 + r.Intn(9)/8)
	case 1:
		return size(r.Intn(4097))
	}
	return size(min(max(sum+r.Intn(3)-1, 0), 4096))
}

// generated is a block that is mostly right.
func generated(r *rand.Rand, m *model) string {
	block := ""
	for range max(r.Intn(6)-3, 0) {
		block += generatedSize(r, m)
	}
	many := r.Intn(12)
	if r.Intn(40) == 0 {
		many = 62 + r.Intn(4)
	}
	for range many {
		block += generatedPart(r, m)
	}
	if r.Intn(60) == 0 {
		block += generatedSize(r, m)
	}
	return block
}

// spoilt is a block of which some bytes are others, lack, or are there twice.
func spoilt(r *rand.Rand, block string) string {
	b := []byte(block)
	for range 1 + r.Intn(2) {
		if len(b) == 0 {
			return string(b)
		}
		i := r.Intn(len(b))
		switch r.Intn(7) {
		case 0:
			b = b[:i]
		case 1:
			b = slices.Delete(b, i, i+1)
		case 2:
			b = slices.Insert(b, i, b[i:i+1+r.Intn(len(b)-i)]...)
		case 3:
			b[i] ^= 1 << r.Intn(8)
		case 4:
			b[i] = "\x00\x0f\x1f\x3f\x7f\x80\xff"[r.Intn(7)]
		case 5:
			b = slices.Insert(b, i, byte(r.Intn(256)))
		case 6:
			b = slices.Insert(b, i, []byte(some(1+r.Intn(6), "\x7f\x80\xff"[r.Intn(3):][:1]))...)
		}
	}
	return string(b)
}

func TestGeneratedBlocks(t *testing.T) {
	r := rand.New(rand.NewSource(12))
	all := newModel()
	entries, gone := 0, 0
	for range 20000 {
		d, m := unpack.New(), newModel()
		m.count = all.count
		for range 1 + r.Intn(12) {
			block := generated(r, m)
			if r.Intn(8) == 0 {
				block = spoilt(r, block)
			}
			was := len(m.there)
			agreeInAll(t, d, m, block)
			entries = max(entries, len(m.there))
			if len(m.there) < was {
				gone++
			}
		}
	}
	all.counts(t, 50, api.OK, api.ErrShort, api.ErrState, api.ErrInteger, api.ErrPadding, api.ErrIndex, api.ErrResize, api.ErrList)
	if entries < 40 || gone < 1000 {
		t.Errorf("at most %d entries, and %d times some went", entries, gone)
	}
}
