package name_test

import (
	"regexp"
	"slices"
	"strconv"
	"strings"
	"testing"

	"nuncio/api"
	"nuncio/name"
)

const (
	root     = "\x00"
	capitals = "ABCDEFGHIJKLMNOPQRSTUVWXYZ"
	smalls   = "abcdefghijklmnopqrstuvwxyz"
)

// each tells all bytes, one after the other, as texts.
func each(yield func(c byte, s string) bool) {
	for n := range 256 {
		if !yield(byte(n), string([]byte{byte(n)})) {
			return
		}
	}
}

// texts tells all texts of up to most bytes of an alphabet.
func texts(alphabet string, most int) func(yield func(s string) bool) {
	return func(yield func(s string) bool) {
		level := []string{""}
		for size := 0; size <= most; size++ {
			var longer []string
			for _, s := range level {
				if !yield(s) {
					return
				}
				for i := 0; i < len(alphabet) && size < most; i++ {
					longer = append(longer, s+alphabet[i:i+1])
				}
			}
			level = longer
		}
	}
}

// wire is the bytes that labels are sent in, whether they may be or not.
func wire(labels ...string) string {
	s := ""
	for _, l := range labels {
		s += string([]byte{byte(len(l))}) + l
	}
	return s + root
}

// zs is a label of so many bytes.
func zs(n int) string { return strings.Repeat("z", n) }

// good are lists of labels of which names can be made.
func good() [][]string {
	lists := [][]string{
		nil, {"a"}, {"www", "ex"}, {"www", "Ex"}, {"WWW", "EX", "org"}, {"a.b"}, {"a", "b"}, {"a\x01b"}, {"\\"}, {"."}, {".", "."}, {"\\."}, {"a."}, {".a"},
		{"\x00"}, {"\x00\x00", "\x00"}, {"\xff"}, {" "}, {"!~"}, {"\x7f"}, {"065"}, {"\\065"}, {"\\.", "\\\\"}, {"Ä", "\xc4", "\xe4"}, {"*"}, {"_dns", "_tcp", "ex"},
		{zs(62)}, {zs(63)}, {zs(63), zs(63)}, {zs(63), zs(63), zs(63)},
		{zs(63), zs(63), zs(63), zs(61)}, {zs(61), zs(63), zs(63), zs(63)}, {zs(63), zs(63), zs(63), zs(60)}, {zs(63), zs(63), zs(63), zs(59), "a"},
		slices.Repeat([]string{"a"}, 126), slices.Repeat([]string{"a"}, 127), append(slices.Repeat([]string{"a"}, 125), "ab"), append(slices.Repeat([]string{"a"}, 126), "b"),
		{strings.Repeat("\x00", 63), strings.Repeat("\xff", 63), strings.Repeat(".", 63), strings.Repeat("\\", 61)},
		{capitals + smalls}, {smalls + capitals},
	}
	for n := 1; n <= 63; n++ {
		lists = append(lists, []string{zs(n)}, []string{strings.Repeat("Q", n), "x"})
	}
	for _, s := range each {
		lists = append(lists, []string{s}, []string{"a" + s + "z"}, []string{"x", s, s + s})
	}
	return lists
}

// bad are bytes that are no name.
func bad() []string {
	texts := []string{
		"", "a", "\x01", "\x01a", "\x02a\x00", "\x03ab\x00", "\x01a\x01", "\x01a\x01b", "\x01a\x02b\x00",
		"\x00\x00", "\x00a", "\x00\x01a\x00", "\x01a\x00\x00", "\x01a\x00b", "\x01a\x00\x01b\x00",
		"\xc0\x00", "\xc0\x0c", "\x01a\xc0\x00", "www.ex.", "ex.",
		wire(zs(64)), wire("a", zs(64)), wire(zs(64), "a"), "\x3f" + zs(62), "\x3f" + zs(63), "\x3f" + zs(62) + root,
		wire(zs(63), zs(63), zs(63), zs(62)), wire(zs(63), zs(63), zs(63), zs(61)) + root, wire(zs(63), zs(63), zs(63), zs(63)),
		wire(append(slices.Repeat([]string{"a"}, 126), "ab")...), wire(slices.Repeat([]string{"a"}, 128)...), wire(slices.Repeat([]string{"a"}, 5000)...),
		strings.Repeat("\x00", 255), strings.Repeat("\x00", 300), strings.Repeat("\x01", 255), strings.Repeat("\xff", 255),
	}
	for n := 64; n <= 255; n++ {
		texts = append(texts, string([]byte{byte(n)})+zs(n)+root, string([]byte{byte(n)})+root, "\x01a"+string([]byte{byte(n)})+zs(n)+root)
	}
	return texts
}

// told and parts keep answers from being left away by the compiler.
var (
	told  string
	parts []string
)

// P4.1: Is, Labels, Make.

func TestNamesOfLabels(t *testing.T) {
	for _, labels := range good() {
		want := wire(labels...)
		if s, e := name.Make(labels...); s != want || e != api.OK {
			t.Errorf("Make(%q) = %q, %d, want %q", labels, s, e, want)
		}
		if !name.Is(want) {
			t.Errorf("Is(%q) = false", want)
		}
		if got := name.Labels(want); !slices.Equal(got, labels) {
			t.Errorf("Labels(%q) = %q, want %q", want, got, labels)
		}
	}
}

func TestNoNames(t *testing.T) {
	for _, s := range bad() {
		if name.Is(s) {
			t.Errorf("Is(%q) = true", s)
		}
		if got := name.Labels(s); len(got) != 0 {
			t.Errorf("Labels(%q) = %q", s, got)
		}
	}
}

func TestRoot(t *testing.T) {
	if s, e := name.Make(); s != root || e != api.OK {
		t.Errorf("Make() = %q, %d", s, e)
	}
	if s, e := name.Make([]string{}...); s != root || e != api.OK {
		t.Errorf("Make of an empty list = %q, %d", s, e)
	}
	if !name.Is(root) || len(name.Labels(root)) != 0 {
		t.Errorf("Is %v, Labels %q", name.Is(root), name.Labels(root))
	}
}

func TestLongestNames(t *testing.T) {
	for _, labels := range good() {
		size := len(wire(labels...))
		// A label more: a byte less than fills a name, as many as do, and one too many.
		for n := max(1, 253-size); n <= 63 && n <= 255-size; n++ {
			longer := append(slices.Clone(labels), zs(n))
			want, fault := wire(longer...), api.OK
			if size+1+n > 255 {
				want, fault = "", api.ErrName
			}
			if s, e := name.Make(longer...); s != want || e != fault {
				t.Errorf("%d bytes: %q, %d", size+1+n, s, e)
			}
			if name.Is(wire(longer...)) != (fault == api.OK) {
				t.Errorf("%d bytes: Is %v", size+1+n, fault != api.OK)
			}
		}
	}
}

func TestMakeErrLabel(t *testing.T) {
	many := slices.Repeat([]string{"a"}, 200)
	for _, labels := range [][]string{
		{""}, {"", ""}, {"", "a"}, {"a", ""}, {"a", "", "b"},
		{zs(64)}, {zs(64), "a"}, {"a", zs(64)}, {"a", zs(64), "b"}, {zs(65)}, {zs(127)}, {zs(128)}, {zs(254)}, {zs(255)}, {zs(256)}, {zs(257)}, {zs(319)}, {zs(100000)},
		{zs(64), ""}, {"", zs(64)},
		// Longer than a name may be besides, the wrong label ahead, in the midst or behind.
		{zs(63), zs(63), zs(63), zs(63), ""}, {"", zs(63), zs(63), zs(63), zs(63)}, {zs(63), zs(63), "", zs(63), zs(63)},
		{zs(63), zs(63), zs(63), zs(63), zs(64)}, {zs(64), zs(63), zs(63), zs(63), zs(63)},
		append(slices.Clone(many), ""), append([]string{""}, many...), append(slices.Clone(many), zs(64)), append([]string{zs(64)}, many...),
		slices.Repeat([]string{zs(64)}, 8), slices.Repeat([]string{""}, 300),
	} {
		if s, e := name.Make(labels...); s != "" || e != api.ErrLabel {
			t.Errorf("Make of %d labels (%.80q) = %q, %d", len(labels), labels, s, e)
		}
	}
}

func TestMakeErrName(t *testing.T) {
	for _, labels := range [][]string{
		{zs(63), zs(63), zs(63), zs(62)}, {zs(62), zs(63), zs(63), zs(63)}, {zs(63), zs(63), zs(63), zs(63)}, {zs(63), zs(63), zs(63), zs(61), "a"},
		slices.Repeat([]string{"a"}, 128), append(slices.Repeat([]string{"a"}, 126), "ab"), slices.Repeat([]string{"a"}, 5000), slices.Repeat([]string{zs(63)}, 1025),
	} {
		if s, e := name.Make(labels...); s != "" || e != api.ErrName {
			t.Errorf("Make of %d labels (%.80q) = %q, %d", len(labels), labels, s, e)
		}
	}
}

func TestArgumentsStay(t *testing.T) {
	room := []string{"Ab", "c", "spare", "room"}
	s, e := name.Make(room[:2]...)
	if !slices.Equal(room, []string{"Ab", "c", "spare", "room"}) {
		t.Errorf("Make changed its argument: %q", room)
	}
	room[0], room[1] = "x", "y"
	if s != "\x02Ab\x01c\x00" || e != api.OK {
		t.Errorf("Make kept its argument: %q", s)
	}
	a := name.Labels(s)
	b := name.Labels(s)
	a[0], a[1] = "x", "y"
	if !slices.Equal(b, []string{"Ab", "c"}) || !slices.Equal(name.Labels(s), []string{"Ab", "c"}) {
		t.Errorf("two answers of Labels share memory: %q", b)
	}
}

func TestAnswersAreNewMemory(t *testing.T) {
	small := wire(zs(40))
	if testing.AllocsPerRun(10, func() { told = name.Fold(small) }) < 1 {
		t.Error("Fold's answer is its argument")
	}
	// One for the list, and one at least for what stands in it.
	if testing.AllocsPerRun(10, func() { parts = name.Labels(small) }) < 2 {
		t.Error("a label is a piece of the name")
	}
}

// P4.2: Fold, Same, Under.

// lower is s in small letters.
func lower(s string) string {
	for i := range len(capitals) {
		s = strings.ReplaceAll(s, capitals[i:i+1], smalls[i:i+1])
	}
	return s
}

func TestFold(t *testing.T) {
	for s, want := range map[string]string{
		"\x00":                  "\x00",
		"\x03WwW\x02eX\x00":     "\x03www\x02ex\x00",
		"\x03www\x02ex\x00":     "\x03www\x02ex\x00",
		"\x06@AZ[`{\x00":        "\x06@az[`{\x00",
		"\x04\x00A\xc4Z\x00":    "\x04\x00a\xc4z\x00",
		"\x01A\x01B\x01C\x00":   "\x01a\x01b\x01c\x00",
		"\x02\xc3\x84\x00":      "\x02\xc3\x84\x00",
		"\x03\xe2\x84\xaa\x00":  "\x03\xe2\x84\xaa\x00",
		wire(capitals + smalls): wire(smalls + smalls),
	} {
		if got := name.Fold(s); got != want {
			t.Errorf("Fold(%q) = %q, want %q", s, got, want)
		}
	}
	for n := 1; n <= 63; n++ {
		if got, want := name.Fold(wire(strings.Repeat("Q", n), "R")), wire(strings.Repeat("q", n), "r"); got != want {
			t.Errorf("a label of %d: %q", n, got)
		}
	}
	for _, s := range each {
		folded := s
		if i := strings.Index(capitals, s); i >= 0 {
			folded = smalls[i : i+1]
		}
		if got, want := name.Fold(wire(s, "A"+s+"z")), wire(folded, "a"+folded+"z"); got != want {
			t.Errorf("%q: folded %q, want %q", s, got, want)
		}
	}
}

func TestFoldOfNoName(t *testing.T) {
	for _, s := range bad() {
		if got := name.Fold(s); got != "" {
			t.Errorf("Fold(%q) = %q", s, got)
		}
	}
}

func TestSameBytes(t *testing.T) {
	for _, a := range each {
		for _, b := range each {
			want := a == b
			if i, j := strings.Index(capitals+smalls, a), strings.Index(capitals+smalls, b); i >= 0 && j >= 0 {
				want = i%26 == j%26
			}
			if name.Same(wire("x"+a), wire("x"+b)) != want {
				t.Errorf("%q and %q: Same %v", a, b, !want)
			}
			if name.Under(wire("y", "x"+a), wire("x"+b)) != want {
				t.Errorf("%q and %q: Under %v", a, b, !want)
			}
		}
	}
}

func TestSame(t *testing.T) {
	for _, c := range []struct {
		a, b string
		want bool
	}{
		{root, root, true}, {wire("WwW", "eX"), wire("wWw", "Ex"), true}, {wire(capitals), wire(smalls), true},
		{wire(zs(63), zs(63), zs(63), zs(61)), wire(strings.ToUpper(zs(63)), zs(63), zs(63), strings.ToUpper(zs(61))), true},
		{root, wire("a"), false}, {wire("a"), wire("b"), false}, {wire("a"), wire("a", "a"), false}, {wire("a", "b"), wire("b", "a"), false},
		{wire("ab", "c"), wire("a", "bc"), false}, {wire("a.b"), wire("a", "b"), false}, {wire("abc"), wire("a", "b"), false}, {wire("a\x01b"), wire("a", "b"), false},
		{wire("www", "ex"), wire("ex"), false}, {wire("www", "ex"), wire("www"), false}, {wire("www", "ex"), wire("www", "ey"), false}, {wire("www", "ex"), wire("xww", "ex"), false},
		{wire("@["), wire("`{"), false}, {wire("\xc4"), wire("\xe4"), false}, {wire("K"), wire("\u212a"), false},
		{wire(zs(63), zs(63), zs(63), zs(61)), wire(zs(63), zs(63), zs(63), zs(60)), false}, {wire(zs(63), zs(63), zs(63), zs(61)), wire(zs(63), zs(63), zs(63), zs(60)+"y"), false},
	} {
		if name.Same(c.a, c.b) != c.want || name.Same(c.b, c.a) != c.want {
			t.Errorf("%q and %q: %v, and turned round %v", c.a, c.b, name.Same(c.a, c.b), name.Same(c.b, c.a))
		}
	}
}

func TestSameAndUnderOfNoName(t *testing.T) {
	for _, s := range bad() {
		for _, other := range []string{s, root, wire("a"), wire("b"), wire("ex"), ""} {
			if name.Same(s, other) || name.Same(other, s) {
				t.Errorf("Same of %q and %q", s, other)
			}
			if name.Under(s, other) || name.Under(other, s) {
				t.Errorf("Under of %q and %q", s, other)
			}
		}
	}
}

func TestUnder(t *testing.T) {
	most := slices.Repeat([]string{"a"}, 127)
	for _, c := range []struct {
		s, zone string
		want    bool
	}{
		{root, root, true}, {wire("a"), root, true}, {wire("www", "ex"), root, true}, {wire(most...), root, true},
		{wire("www", "ex"), wire("ex"), true}, {wire("WWW", "eX"), wire("Ex"), true}, {wire("www", "ex"), wire("WwW", "EX"), true},
		{wire("a", "b", "c", "d"), wire("d"), true}, {wire("a", "b", "c", "d"), wire("C", "D"), true}, {wire("A", "B", "C", "D"), wire("b", "c", "d"), true},
		{wire(most...), wire(most...), true}, {wire(most...), wire(most[1:]...), true}, {wire("a", "a", "a"), wire("a", "a"), true},
		{root, wire("a"), false}, {wire("ex"), wire("www", "ex"), false}, {wire("a", "a"), wire("a", "a", "a"), false}, {wire(most[1:]...), wire(most...), false},
		{wire("www", "ex"), wire("www"), false}, {wire("www", "ex"), wire("ey"), false}, {wire("www", "ex"), wire("xww", "ex"), false}, {wire("www", "ex"), wire("wwx", "ex"), false},
		{wire("a", "b", "c"), wire("a", "c"), false}, {wire("a", "b", "c"), wire("b"), false}, {wire("a", "b", "c"), wire("a", "b"), false}, {wire("a", "b", "c"), wire("x", "c"), false}, {wire("a", "b", "c"), wire("b", "x"), false},
		{wire("wex"), wire("ex"), false}, {wire("wex"), wire("x"), false}, {wire("ex"), wire("wex"), false}, {wire("a", "wex"), wire("ex"), false},
		{wire("a\x02ex"), wire("ex"), false}, {wire("\x02ex"), wire("ex"), false}, {wire("b", "a\x02ex"), wire("ex"), false}, {wire("a.ex"), wire("ex"), false},
		{wire("a", "ab"), wire("aa", "b"), false}, {wire("ab", "c"), wire("a", "bc"), false},
	} {
		if name.Under(c.s, c.zone) != c.want {
			t.Errorf("Under(%q, %q) = %v", c.s, c.zone, !c.want)
		}
	}
	for _, labels := range good() {
		for i := range len(labels) + 1 {
			s, zone := wire(labels...), wire(labels[i:]...)
			if !name.Under(s, zone) || !name.Under(lower(s), zone) || !name.Under(s, lower(zone)) {
				t.Errorf("%q isn't under %q", s, zone)
			}
			if i > 0 && name.Under(zone, s) {
				t.Errorf("%q is under %q", zone, s)
			}
		}
	}
}

// P4.3: Text, Read.

// read fails if t isn't read as want with that error.
func read(t *testing.T, text, want string, fault api.Errno) {
	t.Helper()
	if s, e := name.Read(text); s != want || e != fault {
		t.Errorf("Read(%.80q) = %q, %d, want %q, %d", text, s, e, want, fault)
	}
}

// three is a number in three digits.
func three(n int) string { return strconv.Itoa(1000 + n)[1:] }

// spelt is how a byte stands in a text.
func spelt(c byte) string {
	if c == '.' || c == '\\' {
		return "\\" + string([]byte{c})
	}
	if c >= 33 && c <= 126 {
		return string([]byte{c})
	}
	return "\\" + three(int(c))
}

func TestTexts(t *testing.T) {
	for _, c := range []struct {
		text   string
		labels []string
	}{
		{".", nil}, {"www.ex.", []string{"www", "ex"}}, {"www.Ex.", []string{"www", "Ex"}}, {"a.", []string{"a"}},
		{"a\\.b.", []string{"a.b"}}, {"\\..", []string{"."}}, {"\\.\\..", []string{".."}}, {"\\\\.", []string{"\\"}}, {"\\\\\\..", []string{"\\."}}, {"\\\\.a.", []string{"\\", "a"}},
		{"\\\\\\032.", []string{"\\ "}}, {"\\000\\255.", []string{"\x00\xff"}}, {"\\0001.", []string{"\x001"}}, {"\\\\032.", []string{"\\032"}}, {"032.", []string{"032"}},
		{"a.\\127.b.", []string{"a", "\x7f", "b"}}, {"\\195\\132.", []string{"Ä"}}, {"!.~.", []string{"!", "~"}}, {"\"@$();.", []string{"\"@$();"}},
		{"\\009\\010\\013\\031\\032\\127\\128.", []string{"\t\n\r\x1f\x20\x7f\x80"}},
		{zs(63) + ".", []string{zs(63)}}, {strings.Repeat("\\000", 63) + ".", []string{strings.Repeat("\x00", 63)}}, {strings.Repeat("\\.", 63) + ".", []string{strings.Repeat(".", 63)}},
		{strings.Repeat("a.", 127), slices.Repeat([]string{"a"}, 127)}, {strings.Repeat("\\255.", 127), slices.Repeat([]string{"\xff"}, 127)},
		{strings.Repeat(zs(63)+".", 3) + zs(61) + ".", []string{zs(63), zs(63), zs(63), zs(61)}},
	} {
		if got := name.Text(wire(c.labels...)); got != c.text {
			t.Errorf("Text(%q) = %q, want %q", wire(c.labels...), got, c.text)
		}
		read(t, c.text, wire(c.labels...), api.OK)
	}
}

func TestTextOfByte(t *testing.T) {
	for c, s := range each {
		for _, f := range [][2]string{{"", ""}, {"a", ""}, {"", "z"}, {"a", "z"}, {"1", "2"}, {"\\\\", "7"}} {
			label := strings.TrimPrefix(f[0], "\\") + s + f[1]
			want := f[0] + spelt(c) + f[1] + "."
			if got := name.Text(wire(label)); got != want {
				t.Errorf("Text(%q) = %q, want %q", wire(label), got, want)
			}
			read(t, want, wire(label), api.OK)
			read(t, "ex."+want, wire("ex", label), api.OK)
		}
	}
}

func TestReadOfByte(t *testing.T) {
	for c, s := range each {
		for _, spelling := range []string{s, "\\" + s, "\\" + three(int(c))} {
			if spelling == "." || spelling == "\\" || spelling == spelt(c) {
				continue // these end a label, begin a spelling, or are right
			}
			for _, text := range []string{spelling + ".", "a" + spelling + ".", spelling + "a.", "b." + spelling + ".", spelling + ".b.", spelling} {
				read(t, text, "", api.ErrForm)
			}
		}
	}
}

func TestReadNumbers(t *testing.T) {
	for n := range 1000 {
		want, fault := "", api.ErrForm
		if n < 256 && spelt(byte(n)) == "\\"+three(n) {
			want, fault = wire(string([]byte{byte(n)})), api.OK
		}
		read(t, "\\"+three(n)+".", want, fault)
		read(t, "\\"+three(n), "", api.ErrForm)
		for size := 1; size <= 3; size++ {
			short := "\\" + three(n)[:size]
			read(t, short, "", api.ErrForm)
			if size < 3 {
				read(t, short+".", "", api.ErrForm)
				read(t, short+"..", "", api.ErrForm)
				read(t, short+"...", "", api.ErrForm)
				read(t, short+"a.", "", api.ErrForm)
				read(t, short+".a.", "", api.ErrForm)
			}
		}
	}
	// Bytes that are no digits, in each place of a number: such ones too as would make it right, were they reckoned with.
	for _, s := range each {
		if strings.Contains("0123456789", s) {
			continue
		}
		for _, number := range []string{"0" + s + "2", "00" + s, "1" + s + "0", "2" + s + "5", "25" + s, "1" + s + s, "0" + s + s} {
			read(t, "\\"+number+".", "", api.ErrForm)
			read(t, "\\"+number+"..", "", api.ErrForm)
		}
		if s != "." && s != "\\" {
			read(t, "\\"+s+"00.", "", api.ErrForm)
			read(t, "\\"+s+"32.", "", api.ErrForm)
		}
	}
}

func TestReadErrForm(t *testing.T) {
	for _, text := range []string{
		"", "a", "www.ex", "..", "...", "a..", "a..b.", ".a", ".a.", "..a.", "a.b", "www.ex..", ".www.ex.",
		"\\", "a\\", "a.\\", "a.b.\\", "\\\\", "\\\\\\", "\\.", "a\\.", "a.b\\.", "\\\\\\.", "\\\\a", "\\.a",
		"\\a.", "\\-1.", "\\+01.", "\\ .", "\\\x00.", "\\\xff.", "\\x20.", "\\@.",
		"\\2", "\\25", "\\255", "\\2.", "\\25.", "\\256.", "\\257.", "\\300.", "\\512.", "\\768.", "\\999.", "\\288.", "\\1000.0", "\\00.", "\\0.",
		"\\065.", "\\046.", "\\092.", "\\033.", "\\126.", "\\048.", "a\\065.", "\\065a.",
		" .", "\t.", "\x00.", "\x1f.", "\x7f.", "\x80.", "\xff.", "Ä.", " a.", "a .", " ", ". ", "a. ", "a.\n",
		root, wire("a"), wire("www", "ex"), "\x01a.",
	} {
		read(t, text, "", api.ErrForm)
	}
}

func TestReadSeveralErrors(t *testing.T) {
	long, many := zs(64)+".", strings.Repeat("a.", 128)
	for _, text := range []string{long, zs(100000) + ".", long + "a.", "a." + long, long + many, many + long, strings.Repeat("\\000", 64) + ".", strings.Repeat("\\.", 64) + ".", strings.Repeat("\\\\", 64) + ".", strings.Repeat(long, 5), zs(255) + ".", zs(256) + ".", zs(320) + "."} {
		read(t, text, "", api.ErrLabel)
	}
	for _, text := range []string{many, strings.Repeat("a.", 126) + "ab.", strings.Repeat("a.", 5000), strings.Repeat(zs(63)+".", 4), strings.Repeat(zs(63)+".", 3) + zs(62) + ".", strings.Repeat("\\000.", 128), strings.Repeat(zs(63)+".", 1025)} {
		read(t, text, "", api.ErrName)
	}
	for _, ahead := range []string{long, many, long + many, many + long} {
		for _, text := range []string{"a", ".", ".a.", " .", "\\", "\\a.", "\\065.", "\\256.", "\\25."} {
			read(t, ahead+text, "", api.ErrForm)
		}
		for _, text := range []string{".", " ", "\\a", "\\065", "\\256", "\\", "a..", " ."} {
			read(t, text+ahead, "", api.ErrForm)
		}
	}
	read(t, zs(64), "", api.ErrForm)
	read(t, strings.Repeat("a.", 127)+"a", "", api.ErrForm)
}

func TestTextOfNoName(t *testing.T) {
	for _, s := range bad() {
		if got := name.Text(s); got != "" {
			t.Errorf("Text(%q) = %q", s, got)
		}
	}
}

// P4.4: names and their texts are one to one, and their lengths.

// known tells all names of up to so many bytes, made of that alphabet: each from the ones that are shorter.
func known(alphabet string, most int) map[string]int {
	names, level := map[string]int{root: 1}, []string{root}
	for len(level) > 0 {
		var longer []string
		for _, tail := range level {
			for label := range texts(alphabet, most-1-len(tail)) {
				if s := string([]byte{byte(len(label))}) + label + tail; label != "" && len(s) <= most {
					names[s] = len(s)
					longer = append(longer, s)
				}
			}
		}
		level = longer
	}
	return names
}

func TestAllShortBytes(t *testing.T) {
	const alphabet, most = "\x00\x01\x02\x03.A", 6
	names := known(alphabet, most)
	for s := range texts(alphabet, most) {
		if name.Is(s) != (names[s] > 0) {
			t.Errorf("Is(%q) = %v", s, name.Is(s))
		}
		if names[s] == 0 && (len(name.Labels(s)) != 0 || name.Text(s) != "" || name.Fold(s) != "" || name.Same(s, s) || name.Under(s, s)) {
			t.Errorf("%q is no name, but something is told of it", s)
		}
	}
	whose := map[string]string{}
	for s := range names {
		text := name.Text(s)
		if other, ok := whose[text]; ok || text == "" {
			t.Errorf("%q and %q have one text, %q", s, other, text)
		}
		whose[text] = s
		oneToOne(t, s)
	}
}

// oneToOne fails if a name isn't what its labels or its text make, or isn't as long as it should be.
func oneToOne(t *testing.T, s string) {
	t.Helper()
	labels, text := name.Labels(s), name.Text(s)
	if again, e := name.Make(labels...); again != s || e != api.OK {
		t.Errorf("%q has the labels %q, and they make %q, %d", s, labels, again, e)
	}
	if again, e := name.Read(text); again != s || e != api.OK {
		t.Errorf("%q has the text %q, and that is read as %q, %d", s, text, again, e)
	}
	if len(s) != len(strings.Join(labels, ""))+len(labels)+1 {
		t.Errorf("%q is %d bytes long", s, len(s))
	}
	if folded := name.Fold(s); !name.Is(folded) || name.Fold(folded) != folded || !name.Same(s, folded) || len(folded) != len(s) || len(name.Labels(folded)) != len(labels) {
		t.Errorf("%q is %q when folded", s, folded)
	}
}

func TestNamesOneToOne(t *testing.T) {
	for _, labels := range good() {
		oneToOne(t, wire(labels...))
	}
}

// form is what the texts of names are alike in: how each byte stands in one, and where its points are.
func form() *regexp.Regexp {
	var bytes []string
	for c := range each {
		bytes = append(bytes, regexp.QuoteMeta(spelt(c)))
	}
	return regexp.MustCompile(`^(\.|((` + strings.Join(bytes, "|") + `)+\.)+)$`)
}

func TestAllShortTexts(t *testing.T) {
	right := form()
	check := func(alphabet string, most int) {
		whose := map[string]string{}
		for text := range texts(alphabet, most) {
			s, e := name.Read(text)
			if !right.MatchString(text) {
				if s != "" || e != api.ErrForm {
					t.Errorf("Read(%q) = %q, %d", text, s, e)
				}
				continue
			}
			if !name.Is(s) || e != api.OK || name.Text(s) != text {
				t.Errorf("%q is read as %q, %d, whose text is %q", text, s, e, name.Text(s))
			}
			if other, ok := whose[s]; ok {
				t.Errorf("%q and %q are read as one, %q", text, other, s)
			}
			whose[s] = text
		}
		if len(whose) < 50 {
			t.Errorf("of the texts of %q no more than %d are names'", alphabet, len(whose))
		}
	}
	check(".\\025a ", 6)
	check(".\\29:/", 6)
	check(".\\\x02a~\xff\x00", 5)
}
