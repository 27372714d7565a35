package unpack_test

import (
	"encoding/hex"
	"fmt"
	"slices"
	"strings"
	"testing"

	"nuncio/api"
	"nuncio/huff"
	"nuncio/table"
	"nuncio/unpack"
)

// field is a name and a value.
func field(name, value string) api.Field { return api.Field{Name: name, Value: value} }

// never is one that is never to be put into a table.
func never(name, value string) api.Field { return api.Field{Name: name, Value: value, Never: true} }

// bytes are those of hexadecimal digits, with spaces between them.
func bytes(digits string) string {
	b, err := hex.DecodeString(strings.ReplaceAll(digits, " ", ""))
	if err != nil {
		panic(err)
	}
	return string(b)
}

// integer is a number in the lowest bits of a byte, and in as few more bytes as can be.
func integer(mark, bits, n int) string {
	most := 1<<bits - 1
	if n < most {
		return string([]byte{byte(mark + n)})
	}
	b := []byte{byte(mark + most)}
	for n -= most; n > 127; n /= 128 {
		b = append(b, byte(128+n%128))
	}
	return string(append(b, byte(n)))
}

// plain is a text as it is.
func plain(s string) string { return integer(0, 7, len(s)) + s }

// coded is one that layer 10 decodes.
func coded(s string) string { return raw(huff.Encode(s)) }

// raw is one that layer 10 decodes, or can't, of these bytes.
func raw(s string) string { return integer(128, 7, len(s)) + s }

// row is one of the table in 'Words': its lowest first byte, and the bits of the integer that begins there.
type row struct {
	name       string
	mark, bits int
}

// rows are all five, the indexes' first and the sizes' last.
var rows = []row{{"index", 128, 7}, {"added", 64, 6}, {"never", 16, 4}, {"plain", 0, 4}, {"size", 32, 5}}

// spelling are the three rows that have a text.
var spelling = rows[1:4]

// integer begins a representation.
func (r row) integer(n int) string { return integer(r.mark, r.bits, n) }

// full is the first byte of one that more follow.
func (r row) full() string { return string([]byte{byte(r.mark + 1<<r.bits - 1)}) }

// named is a representation whose name is an entry's (that of index alone has nothing behind the index).
func (r row) named(n int, value string) string {
	if r.name == "index" {
		return r.integer(n)
	}
	return r.integer(n) + plain(value)
}

// spelt is a representation of one of the rows that have a text.
func (r row) spelt(name, value string) string { return r.integer(0) + plain(name) + plain(value) }

// field is what it tells.
func (r row) field(name, value string) api.Field {
	return api.Field{Name: name, Value: value, Never: r.name == "never"}
}

// index, added, neverAdded, other and size are the rows' representations.
func index(n int) string                       { return rows[0].integer(n) }
func added(name, value string) string          { return rows[1].spelt(name, value) }
func addedAt(n int, value string) string       { return rows[1].named(n, value) }
func neverAdded(name, value string) string     { return rows[2].spelt(name, value) }
func other(name, value string) string          { return rows[3].spelt(name, value) }
func size(n int) string                        { return rows[4].integer(n) }
func some(n int, representation string) string { return strings.Repeat(representation, n) }

// entry is a fixed entry.
func entry(n int) api.Field {
	name, value, ok := table.New(0).At(n)
	if !ok {
		panic(n)
	}
	return field(name, value)
}

// counted is what a field counts in a table.
func counted(f api.Field) int { return len(f.Name) + len(f.Value) + 32 }

// sized is a field that counts so much.
func sized(name string, n int) api.Field {
	return field(name, strings.Repeat("v", n-32-len(name)))
}

// add is the representation that adds a field.
func add(f api.Field) string { return added(f.Name, f.Value) }

// reads fails if a block isn't read as these fields.
func reads(t *testing.T, d *unpack.Decoder, block string, want ...api.Field) {
	t.Helper()
	if got, e := d.Read(block); e != api.OK || !slices.Equal(got, want) {
		t.Errorf("Read(%s) = %s, %d, want %s", told(block), toldFields(got), e, toldFields(want))
	}
	if d.Down() {
		t.Errorf("down behind %s", told(block))
	}
}

// fails fails if a block isn't told to be wrong in that way, or the decoder isn't down then.
func fails(t *testing.T, d *unpack.Decoder, block string, want api.Errno) {
	t.Helper()
	if got, e := d.Read(block); e != want || len(got) != 0 {
		t.Errorf("Read(%s) = %s, %d, want %d", told(block), toldFields(got), e, want)
	}
	if !d.Down() {
		t.Errorf("not down behind %s", told(block))
	}
}

// newFails is that for a new decoder.
func newFails(t *testing.T, block string, want api.Errno) {
	t.Helper()
	fails(t, unpack.New(), block, want)
}

// newReads is that for a new decoder.
func newReads(t *testing.T, block string, want ...api.Field) {
	t.Helper()
	reads(t, unpack.New(), block, want...)
}

// holds fails if a decoder's table has another greatest size, or other entries than these, the youngest first.
func holds(t *testing.T, d *unpack.Decoder, most int, want ...api.Field) {
	t.Helper()
	tableHolds(t, d.Table(), most, want...)
}

// tableHolds is that for a table.
func tableHolds(t *testing.T, x *table.Table, most int, want ...api.Field) {
	t.Helper()
	sum := 0
	for _, f := range want {
		sum += counted(f)
	}
	if got := entries(x); x.Most() != most || x.Size() != sum || x.Len() != len(want) || !slices.Equal(got, want) {
		t.Errorf("the table has %s, %d of %d in all, want %s, %d of %d", toldFields(got), x.Size(), x.Most(), toldFields(want), sum, most)
	}
	if x.Size() > x.Most() || x.Most() > 4096 {
		t.Errorf("the table has %d of %d", x.Size(), x.Most())
	}
}

// entries are those that a table has beside the fixed ones, the youngest first.
func entries(x *table.Table) []api.Field {
	var all []api.Field
	for n := 62; ; n++ {
		name, value, ok := x.At(n)
		if !ok {
			return all
		}
		all = append(all, field(name, value))
	}
}

// told is a text as a failure tells it, a long one by its first bytes.
func told(s string) string {
	if len(s) <= 60 {
		return fmt.Sprintf("%q", s)
	}
	return fmt.Sprintf("%q .. (%d bytes)", s[:60], len(s))
}

// toldFields is that for fields.
func toldFields(fields []api.Field) string {
	var b strings.Builder
	for i, f := range fields {
		if i == 8 {
			fmt.Fprintf(&b, " .. (%d fields)", len(fields))
			break
		}
		fmt.Fprintf(&b, " %s=%s", told(f.Name), told(f.Value))
		if f.Never {
			b.WriteString("!")
		}
	}
	return "[" + b.String() + " ]"
}
