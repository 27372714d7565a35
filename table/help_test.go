package table_test

import (
	"fmt"
	"strings"
	"testing"
	"unsafe"

	"nuncio/table"
)

// field is a name and a value.
type field [2]string

// overhead is what an entry counts beside its texts.
const overhead = 32

// size is what a field counts.
func (f field) size() int { return len(f[0]) + len(f[1]) + overhead }

// sized is a field that counts so much, at least the overhead and its name.
func sized(name string, size int) field {
	return field{name, strings.Repeat("v", size-overhead-len(name))}
}

// numbered is the i-th of fields that are all others, and of another size than those beside it.
func numbered(i int) field {
	return field{fmt.Sprint("name", i), strings.Repeat("v", i%7)}
}

// sum is what fields count.
func sum(fields []field) int {
	n := 0
	for _, f := range fields {
		n += f.size()
	}
	return n
}

// of is a table with these fields, the youngest first, and just the room for them.
func of(fields ...field) *table.Table {
	x := table.New(sum(fields))
	for i := range fields {
		add(x, fields[len(fields)-1-i])
	}
	return x
}

// add adds a field.
func add(x *table.Table, f field) { x.Add(f[0], f[1]) }

// holds fails if a table has another greatest size, or other fields than these, the youngest first.
func holds(t *testing.T, x *table.Table, most int, fields ...field) {
	t.Helper()
	if x.Most() != most {
		t.Errorf("Most = %d, want %d", x.Most(), most)
	}
	if x.Size() != sum(fields) || x.Len() != len(fields) {
		t.Errorf("Size, Len = %d, %d, want %d, %d", x.Size(), x.Len(), sum(fields), len(fields))
	}
	if x.Size() > x.Most() {
		t.Errorf("Size = %d, above Most = %d", x.Size(), x.Most())
	}
	for i, f := range fields {
		at(t, x, 62+i, f)
	}
	lacks(t, x, 62+len(fields))
	lacks(t, x, 63+len(fields))
}

// at fails if the entry of a number is another one.
func at(t *testing.T, x *table.Table, n int, want field) {
	t.Helper()
	if name, value, ok := x.At(n); name != want[0] || value != want[1] || !ok {
		t.Errorf("At(%d) = %s, %s, %t, want %s, %s", n, told(name), told(value), ok, told(want[0]), told(want[1]))
	}
}

// lacks fails if a number has an entry.
func lacks(t *testing.T, x *table.Table, n int) {
	t.Helper()
	if name, value, ok := x.At(n); name != "" || value != "" || ok {
		t.Errorf("At(%d) = %s, %s, %t, want none", n, told(name), told(value), ok)
	}
}

// finds fails if another entry is found.
func finds(t *testing.T, x *table.Table, name, value string, want int, whole bool) {
	t.Helper()
	if n, all := x.Find(name, value); n != want || all != whole {
		t.Errorf("Find(%s, %s) = %d, %t, want %d, %t", told(name), told(value), n, all, want, whole)
	}
}

// told is a text as a failure tells it, a long one by its first bytes.
func told(s string) string {
	if len(s) <= 40 {
		return fmt.Sprintf("%q", s)
	}
	return fmt.Sprintf("%d bytes: %q ..", len(s), s[:40])
}

// apart: have two texts no memory in common?
func apart(a, b string) bool {
	if a == "" || b == "" {
		return true
	}
	x, y := uintptr(unsafe.Pointer(unsafe.StringData(a))), uintptr(unsafe.Pointer(unsafe.StringData(b)))
	return x+uintptr(len(a)) <= y || y+uintptr(len(b)) <= x
}

// fixed are the fixed entries, as the table of RFC 7541, appendix A, has them.
var fixed = []field{
	{":authority", ""},
	{":method", "GET"},
	{":method", "POST"},
	{":path", "/"},
	{":path", "/index.html"},
	{":scheme", "http"},
	{":scheme", "https"},
	{":status", "200"},
	{":status", "204"},
	{":status", "206"},
	{":status", "304"},
	{":status", "400"},
	{":status", "404"},
	{":status", "500"},
	{"accept-charset", ""},
	{"accept-encoding", "gzip, deflate"},
	{"accept-language", ""},
	{"accept-ranges", ""},
	{"accept", ""},
	{"access-control-allow-origin", ""},
	{"age", ""},
	{"allow", ""},
	{"authorization", ""},
	{"cache-control", ""},
	{"content-disposition", ""},
	{"content-encoding", ""},
	{"content-language", ""},
	{"content-length", ""},
	{"content-location", ""},
	{"content-range", ""},
	{"content-type", ""},
	{"cookie", ""},
	{"date", ""},
	{"etag", ""},
	{"expect", ""},
	{"expires", ""},
	{"from", ""},
	{"host", ""},
	{"if-match", ""},
	{"if-modified-since", ""},
	{"if-none-match", ""},
	{"if-range", ""},
	{"if-unmodified-since", ""},
	{"last-modified", ""},
	{"link", ""},
	{"location", ""},
	{"max-forwards", ""},
	{"proxy-authenticate", ""},
	{"proxy-authorization", ""},
	{"range", ""},
	{"referer", ""},
	{"refresh", ""},
	{"retry-after", ""},
	{"server", ""},
	{"set-cookie", ""},
	{"strict-transport-security", ""},
	{"transfer-encoding", ""},
	{"user-agent", ""},
	{"vary", ""},
	{"via", ""},
	{"www-authenticate", ""},
}
