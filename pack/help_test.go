package pack_test

import (
	"encoding/hex"
	"fmt"
	"slices"
	"strings"
	"testing"

	"nuncio/api"
	"nuncio/huff"
	"nuncio/pack"
	"nuncio/table"
	"nuncio/unpack"
)

// field is a name and a value.
func field(name, value string) api.Field { return api.Field{Name: name, Value: value} }

// never is one that is never to be put into a table.
func never(name, value string) api.Field { return api.Field{Name: name, Value: value, Never: true} }

// bytes are those of hexadecimal digits, with spaces between them.
func bytes(digits string) string {
	b, err := hex.DecodeString(strings.ReplaceAll(digits, " ", ""))
	if err != nil {
		panic(err)
	}
	return string(b)
}

// integer is a number in the lowest bits of a byte, and in as few more bytes as can be.
func integer(mark, bits, n int) string {
	most := 1<<bits - 1
	if n < most {
		return string([]byte{byte(mark + n)})
	}
	b := []byte{byte(mark + most)}
	for n -= most; n > 127; n /= 128 {
		b = append(b, byte(128+n%128))
	}
	return string(append(b, byte(n)))
}

// plain is a text as it is.
func plain(s string) string { return integer(0, 7, len(s)) + s }

// coded is one by layer 10's codes.
func coded(s string) string { return integer(128, 7, len(huff.Encode(s))) + huff.Encode(s) }

// text is a text in the one of these ways that is the shorter, as it is if they are alike.
func text(s string) string {
	if len(huff.Encode(s)) < len(s) {
		return coded(s)
	}
	return plain(s)
}

// index, size, and the other rows with an entry's number (0: none) and what stands behind that.
func index(n int) string                   { return integer(128, 7, n) }
func size(n int) string                    { return integer(32, 5, n) }
func added(n int, texts string) string     { return integer(64, 6, n) + texts }
func neverLaid(n int, texts string) string { return integer(16, 4, n) + texts }
func other(n int, texts string) string     { return integer(0, 4, n) + texts }

// entry is a fixed entry.
func entry(n int) api.Field {
	name, value, ok := table.New(0).At(n)
	if !ok {
		panic(n)
	}
	return field(name, value)
}

// counted is what a field counts in a table.
func counted(f api.Field) int { return len(f.Name) + len(f.Value) + 32 }

// sized is a field that counts so much, whose value stands as it is.
func sized(name string, n int) api.Field {
	return field(name, bare(n-32-len(name)))
}

// bare is a text of so many bytes whose codes are more.
func bare(n int) string { return strings.Repeat("\x00", n) }

// limited is a new encoder that was told one limit, and that to its decoder.
func limited(n int) *pack.Encoder {
	c := pack.New()
	c.Limit(uint32(n))
	c.Write()
	return c
}

// writes fails if the block of fields is another one.
func writes(t *testing.T, c *pack.Encoder, want string, fields ...api.Field) {
	t.Helper()
	if got := c.Write(fields...); got != want {
		t.Errorf("Write(%s) = %s, want %s", toldFields(fields), told(got), told(want))
	}
}

// holds fails if an encoder's table has another greatest size, or other entries than these, the youngest first.
func holds(t *testing.T, c *pack.Encoder, most int, want ...api.Field) {
	t.Helper()
	tableHolds(t, c.Table(), most, want...)
}

// tableHolds is that for a table.
func tableHolds(t *testing.T, x *table.Table, most int, want ...api.Field) {
	t.Helper()
	sum := 0
	for _, f := range want {
		sum += counted(f)
	}
	if got := entries(x); x.Most() != most || x.Size() != sum || x.Len() != len(want) || !slices.Equal(got, want) {
		t.Errorf("the table has %s, %d of %d in all, want %s, %d of %d", toldFields(got), x.Size(), x.Most(), toldFields(want), sum, most)
	}
	if x.Size() > x.Most() || x.Most() > 4096 {
		t.Errorf("the table has %d of %d", x.Size(), x.Most())
	}
}

// follows fails if a decoder reads a block of an encoder as other fields than these, or has another table than it.
func follows(t *testing.T, d *unpack.Decoder, c *pack.Encoder, block string, want ...api.Field) {
	t.Helper()
	if got, e := d.Read(block); e != api.OK || !slices.Equal(got, want) {
		t.Errorf("%s is read as %s, %d, want %s", told(block), toldFields(got), e, toldFields(want))
	}
	tableHolds(t, d.Table(), c.Table().Most(), entries(c.Table())...)
}

// entries are those that a table has beside the fixed ones, the youngest first.
func entries(x *table.Table) []api.Field {
	var all []api.Field
	for n := 62; ; n++ {
		name, value, ok := x.At(n)
		if !ok {
			return all
		}
		all = append(all, field(name, value))
	}
}

// told is a text as a failure tells it, a long one by its first bytes.
func told(s string) string {
	if len(s) <= 60 {
		return fmt.Sprintf("%q", s)
	}
	return fmt.Sprintf("%q .. (%d bytes)", s[:60], len(s))
}

// toldFields is that for fields.
func toldFields(fields []api.Field) string {
	var b strings.Builder
	for i, f := range fields {
		if i == 8 {
			fmt.Fprintf(&b, " .. (%d fields)", len(fields))
			break
		}
		fmt.Fprintf(&b, " %s=%s", told(f.Name), told(f.Value))
		if f.Never {
			b.WriteString("!")
		}
	}
	return "[" + b.String() + " ]"
}
