package pack_test

import (
	"strings"
	"testing"

	"nuncio/api"
	"nuncio/huff"
	"nuncio/pack"
	"nuncio/unpack"
)

// P13.1: how a text is laid.

// lays fails if a text isn't laid so, as a name and as a value, in each row that has one.
func lays(t *testing.T, s, want string) {
	t.Helper()
	c, none := pack.New(), limited(0)
	writes(t, c, "\x10"+want+want, never(s, s))
	writes(t, none, "\x00"+want+want, field(s, s))
	if counted(field(s, s))+counted(field("\xffn", s)) <= 4096 {
		writes(t, c, "\x40"+want+want+"\x40\x02\xffn"+want, field(s, s), field("\xffn", s))
		writes(t, c, "\x1f\x2f"+want+"\x1f\x30"+want, never("\xffn", s), never(s, s))
	}
	if got, e := unpack.New().Read("\x10" + want + want); e != api.OK || len(got) != 1 || got[0] != never(s, s) {
		t.Errorf("%s isn't read as %s twice", told(want), told(s))
	}
}

func TestTextsByWhatTheirCodesTake(t *testing.T) {
	for _, x := range []struct{ text, laid string }{
		{"", "\x00"},
		// As many bytes: they stand as they are.
		{"a", "\x01a"}, {"aa", "\x02aa"}, {"307", "\x03307"}, {"0", "\x010"}, {"GE", "\x02GE"}, {"&&&", "\x03&&&"}, {"&&&&&&&", "\x07&&&&&&&"}, {"XXXX", "\x04XXXX"}, {"!XX", plain("!XX")},
		// Fewer: the codes do.
		{"aaa", "\x82\x18\xc7"}, {"302", "\x82\x64\x02"}, {"no-cache", "\x86\xa8\xeb\x10\x64\x9c\xbf"}, {"www.example.com", "\x8c\xf1\xe3\xc2\xe5\xf2\x3a\x6b\xa0\xab\x90\xf4\xff"}, {"gzip", "\x83\x9b\xd9\xab"}, {"private", "\x85\xae\xc3\x77\x1a\x4b"},
		// Fewer, and as bytes again a text whose codes are fewer: once is all.
		{"/-2F", "\x83aaa"}, {"/-2F/-2F", "\x86aaaaaa"}, {"/-2F/-29", "\x86aaaaa?"},
		// More: they stand as they are.
		{"\x00", "\x01\x00"}, {"\xff\xff", "\x02\xff\xff"}, {"\x00a", "\x02\x00a"}, {"\\", "\x01\\"}, {"<!--", plain("<!--")}, {"\x00aaa", "\x04\x00aaa"}, {"!!!!", plain("!!!!")}, {"\xe4\xb8\x80", "\x03\xe4\xb8\x80"},
	} {
		lays(t, x.text, x.laid)
	}
}

// A sign of a long code, and behind it more and more of a short one: the codes are a byte more than the text has, then as many, then a byte fewer.
func TestTextsAboutWhereCodesAreFewer(t *testing.T) {
	for _, long := range []string{"\x00", "\xff", "\n", "<", "\\"} {
		count := map[int]int{}
		for n := range 60 {
			s := long + strings.Repeat("a", n)
			lays(t, s, text(s))
			count[len(huff.Encode(s))-len(s)]++
		}
		if count[1] == 0 || count[0] == 0 || count[-1] == 0 {
			t.Errorf("%q: %v", long, count)
		}
	}
}

func TestEachByteAsAText(t *testing.T) {
	for c := range 256 {
		s := string([]byte{byte(c)})
		lays(t, s, "\x01"+s)
		lays(t, s+s+s, text(s+s+s))
		lays(t, s+"aaaaaa", text(s+"aaaaaa"))
	}
}

// Lengths that need more bytes than one: the length is that of what stands there, not of the text.
func TestLengthsOfEachLength(t *testing.T) {
	for _, n := range []int{126, 127, 128, 200, 254, 255, 256, 1000, 2032, 4064, 127 + 16383, 127 + 16384, 127 + 1<<21 - 1, 127 + 1<<21} {
		lays(t, bare(n), plain(bare(n)))
		// 8n/5 times five bits are n bytes.
		s := strings.Repeat("a", 8*n/5)
		want := coded(s)
		if length := integer(128, 7, n); !strings.HasPrefix(want, length) {
			t.Errorf("%d times a isn't %d bytes", len(s), n)
		}
		lays(t, s, want)
	}
}

func TestEmptyNamesAndValues(t *testing.T) {
	for _, x := range []struct {
		f    api.Field
		laid string
	}{
		{field("", ""), "\x40\x00\x00"}, {field("", "v"), "\x40\x00\x01v"}, {field("n", ""), "\x40\x01n\x00"}, {field("via", ""), "\xbc"}, {field(":method", ""), "\x42\x00"}, {field(":authority", ""), "\x81"},
		{never("", ""), "\x10\x00\x00"}, {never("", "v"), "\x10\x00\x01v"}, {never("n", ""), "\x10\x01n\x00"}, {never("via", ""), "\x1f\x2d\x00"}, {never(":method", ""), "\x12\x00"}, {never(":authority", ""), "\x11\x00"},
	} {
		c, d := pack.New(), unpack.New()
		writes(t, c, x.laid, x.f)
		follows(t, d, c, x.laid, x.f)
	}
	// An empty name that is there is found as any.
	c := pack.New()
	writes(t, c, "\x40\x00\x00\xbe\x7e\x01v\xbe\xbf", field("", ""), field("", ""), field("", "v"), field("", "v"), field("", ""))
	holds(t, c, 4096, field("", "v"), field("", ""))
}
