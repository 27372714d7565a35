package text

import (
	"math"
	"strings"
	"testing"
)

const (
	capitals = "ABCDEFGHIJKLMNOPQRSTUVWXYZ"
	smalls   = "abcdefghijklmnopqrstuvwxyz"
	digits   = "0123456789"
	signs    = "!#$%&'*+-.^_`|~"
)

// each tells all bytes, one after the other, as texts.
func each(yield func(c byte, s string) bool) {
	for n := range 256 {
		if !yield(byte(n), string([]byte{byte(n)})) {
			return
		}
	}
}

// all is every byte, in order.
func all() string {
	var b strings.Builder
	for _, s := range each {
		b.WriteString(s)
	}
	return b.String()
}

// P2.1: Fold, Same, Token, Value.

func TestFoldByte(t *testing.T) {
	for _, s := range each {
		want := s
		if i := strings.Index(capitals, s); i >= 0 {
			want = smalls[i : i+1]
		}
		if got := Fold(s); got != want {
			t.Errorf("Fold(%q) = %q, want %q", s, got, want)
		}
	}
}

func TestFold(t *testing.T) {
	for s, want := range map[string]string{
		"":                   "",
		"WwW.Ex":             "www.ex",
		"@AZ[`az{":           "@az[`az{",
		"\x00A\xc4\xe4Z\xff": "\x00a\xc4\xe4z\xff",
		"Ä É \u212a":         "Ä É \u212a",
		capitals:             smalls,
		smalls:               smalls,
		digits + signs:       digits + signs,
		"mid DLE end":        "mid dle end",
	} {
		if got := Fold(s); got != want {
			t.Errorf("Fold(%q) = %q, want %q", s, got, want)
		}
	}
	if got, want := Fold(all()), strings.Replace(all(), capitals, smalls, 1); got != want {
		t.Errorf("all bytes: %q, want %q", got, want)
	}
}

// told keeps an answer from being left away by the compiler.
var told string

func TestAnswersAreNewMemory(t *testing.T) {
	s := strings.Repeat("small text, which is folded ", 4)
	if testing.AllocsPerRun(10, func() { told = Fold(s) }) < 1 {
		t.Error("Fold's answer is its argument")
	}
	if testing.AllocsPerRun(10, func() { told = Media(s) }) < 1 {
		t.Error("Media's answer is a piece of its argument")
	}
}

func TestSameBytes(t *testing.T) {
	for _, a := range each {
		for _, b := range each {
			want := a == b
			if i, j := strings.Index(capitals+smalls, a), strings.Index(capitals+smalls, b); i >= 0 && j >= 0 {
				want = i%26 == j%26
			}
			if Same(a, b) != want {
				t.Errorf("Same(%q, %q) = %v", a, b, !want)
			}
		}
	}
}

func TestSame(t *testing.T) {
	for _, c := range []struct {
		a, b string
		want bool
	}{
		{"", "", true}, {"Ex", "eX", true}, {"WWW.EX", "www.ex", true}, {all(), Fold(all()), true},
		{"", "a", false}, {"a", "ab", false}, {"ab", "abc", false}, {"a", "aa", false}, {"a", "a\x00", false},
		{"xbc", "abc", false}, {"axc", "abc", false}, {"abx", "abc", false}, {"ab", "ba", false},
		{"@[", "`{", false}, {"\xc4", "\xe4", false}, {"Ä", "ä", false}, {"K", "\u212a", false}, {"\xc4A", "\xc4a", true},
	} {
		if Same(c.a, c.b) != c.want || Same(c.b, c.a) != c.want {
			t.Errorf("%q and %q: %v, and turned round %v", c.a, c.b, Same(c.a, c.b), Same(c.b, c.a))
		}
	}
}

func TestTokenByte(t *testing.T) {
	for _, s := range each {
		want := strings.Contains(capitals+smalls+digits+signs, s)
		for _, c := range []string{s, s + "a", "a" + s, "a" + s + "z"} {
			if Token(c) != want {
				t.Errorf("Token(%q) = %v", c, !want)
			}
		}
	}
}

func TestToken(t *testing.T) {
	for s, want := range map[string]bool{
		"":                                 false,
		" ":                                false,
		"content-type":                     true,
		"Content-Type":                     true,
		"0":                                true,
		capitals + smalls + digits + signs: true,
		":status":                          false,
		"a b":                              false,
		" a":                               false,
		"a ":                               false,
		"a\t":                              false,
		"a\x00":                            false,
		"Ä":                                false,
		"text/plain":                       false,
	} {
		if Token(s) != want {
			t.Errorf("Token(%q) = %v", s, !want)
		}
	}
}

func TestValueByte(t *testing.T) {
	for n, s := range each {
		inside := n == 9 || n >= 32 && n <= 126 || n >= 128
		ends := inside && n != 9 && n != 32
		for c, want := range map[string]bool{s: ends, s + "a": ends, "a" + s: ends, "a" + s + "z": inside, s + s: ends} {
			if Value(c) != want {
				t.Errorf("Value(%q) = %v", c, !want)
			}
		}
	}
}

func TestValue(t *testing.T) {
	for s, want := range map[string]bool{
		"":              true,
		" ":             false,
		"\t":            false,
		" \t ":          false,
		"a":             true,
		"a \t b":        true,
		" a":            false,
		"a ":            false,
		"\ta":           false,
		"a\t":           false,
		" a ":           false,
		"\u00a0a\u2003": true,
		"\x80\xff":      true,
		"a\r\nb":        false,
		"a\x00":         false,
		"\x7f":          false,
		"max-age=60":    true,
	} {
		if Value(s) != want {
			t.Errorf("Value(%q) = %v", s, !want)
		}
	}
}

// P2.2: Decimal, Number.

func TestDecimal(t *testing.T) {
	for _, c := range []struct {
		s    string
		most int
		want int
	}{
		{"0", 0, 0}, {"0", 1, 0}, {"0", math.MaxInt, 0}, {"1", 1, 1}, {"9", 9, 9}, {"9", 10, 9},
		{"10", 10, 10}, {"99", 99, 99}, {"100", 100, 100}, {"120", 120, 120}, {"120", 121, 120}, {"65535", 65535, 65535},
		{"12345678", 99999999, 12345678}, {"123456789", 999999999, 123456789}, {"987654321", 987654321, 987654321},
		{"100000000", 100000000, 100000000}, {"999999999", 999999999, 999999999}, {"999999999", math.MaxInt, 999999999},
	} {
		if n, ok := Decimal(c.s, c.most); n != c.want || !ok {
			t.Errorf("Decimal(%q, %d) = %d, %v", c.s, c.most, n, ok)
		}
	}
}

func TestDecimalAboveMost(t *testing.T) {
	for _, c := range []struct {
		s    string
		most int
	}{
		{"0", -1}, {"0", math.MinInt}, {"1", 0}, {"1", -1}, {"1", -2}, {"9", 8}, {"10", 9}, {"120", 119}, {"65536", 65535},
		{"100000000", 99999999}, {"999999999", 999999998}, {"999999999", 0}, {"999999999", math.MinInt},
	} {
		if n, ok := Decimal(c.s, c.most); n != 0 || ok {
			t.Errorf("Decimal(%q, %d) = %d, %v", c.s, c.most, n, ok)
		}
	}
}

func TestDecimalOfNoNumber(t *testing.T) {
	for _, s := range []string{
		"", "00", "01", "0120", "000000000", "012345678", "0a",
		"1000000000", "1234567890", "0000000001", "9999999999", "4294967296", "18446744073709551617", strings.Repeat("1", 100),
		"-", "-0", "-1", "+0", "+1", "1-", "1+", " 1", "1 ", "\t1", "1\n", "1 2", "1_000", "1,0", "1.0", "0x1", "1e1", "a", "1a", "a1", "/", ":", "1/", "1:", "/1", ":1",
		"\x00", "1\x00", "\xb1", "1\xb1", "\xff", "\u0661", "\uff11", "1\u0660", "12345678a", "a23456789", "1234x6789",
	} {
		if n, ok := Decimal(s, math.MaxInt); n != 0 || ok {
			t.Errorf("Decimal(%q) = %d, %v", s, n, ok)
		}
	}
}

func TestDecimalByte(t *testing.T) {
	for c, s := range each {
		want, digit := strings.Index(digits, s), strings.Contains(digits, s)
		if n, ok := Decimal(s, math.MaxInt); ok != digit || n != max(want, 0) {
			t.Errorf("Decimal(%q) = %d, %v", s, n, ok)
		}
		if n, ok := Decimal("1"+s, math.MaxInt); ok != digit || digit && n != 10+want || !digit && n != 0 {
			t.Errorf("Decimal(%q) = %d, %v", "1"+s, n, ok)
		}
		if n, ok := Decimal(s+"1", math.MaxInt); ok != (digit && c != '0') || ok && n != 10*want+1 || !ok && n != 0 {
			t.Errorf("Decimal(%q) = %d, %v", s+"1", n, ok)
		}
	}
}

func TestNumber(t *testing.T) {
	for n, want := range map[int]string{
		0: "0", 1: "1", 9: "9", 10: "10", 99: "99", 100: "100", 101: "101", 120: "120", 65535: "65535",
		999999999: "999999999", 1000000000: "1000000000", math.MaxInt32: "2147483647",
		-1: "", -9: "", -10: "", math.MinInt32: "", math.MinInt: "",
	} {
		if got := Number(n); got != want {
			t.Errorf("Number(%d) = %q, want %q", n, got, want)
		}
	}
	if math.MaxInt > math.MaxInt32 && Number(math.MaxInt) != "9223372036854775807" {
		t.Errorf("the greatest: %q", Number(math.MaxInt))
	}
}

// P2.3: Media.

func TestMedia(t *testing.T) {
	for s, want := range map[string]string{
		"":                               "",
		" \t":                            "",
		";":                              "",
		";;":                             "",
		" ; a=b":                         "",
		";text/plain":                    "",
		"text/plain":                     "text/plain",
		"Application/DNS-Message":        "application/dns-message",
		" Text/Plain ; a=b":              "text/plain",
		"text/plain;a=b;c=d":             "text/plain",
		"A/B;C/D;":                       "a/b",
		"a/b;":                           "a/b",
		"a/b ;":                          "a/b",
		"\t \tA/B\t \t":                  "a/b",
		"\t \tA/B\t \t;\t \tC/D":         "a/b",
		" A \t B ;":                      "a \t b",
		"\nA/B\r;":                       "\na/b\r",
		"\x00A\x00":                      "\x00a\x00",
		"\u00a0A\u00a0":                  "\u00a0a\u00a0",
		"\xa0A\x85":                      "\xa0a\x85",
		" \xc4\xff ;":                    "\xc4\xff",
		"A,B;C":                          "a,b",
		"A:B;C":                          "a:b",
		"\"A;B\"":                        "\"a",
		"application/dns-message ;q=0.5": "application/dns-message",
	} {
		if got := Media(s); got != want {
			t.Errorf("Media(%q) = %q, want %q", s, got, want)
		}
	}
}

func TestMediaByte(t *testing.T) {
	for c, s := range each {
		want := Fold(s)
		if c == 9 || c == 32 || c == ';' {
			want = ""
		}
		if got := Media(s); got != want {
			t.Errorf("Media(%q) = %q, want %q", s, got, want)
		}
		inside := "a" + Fold(s) + "z"
		if c == ';' {
			inside = "a"
		}
		if got := Media("A" + s + "Z"); got != inside {
			t.Errorf("Media(%q) = %q, want %q", "A"+s+"Z", got, inside)
		}
	}
}

// P2.4: what was folded is folded; what was written as a number is read.

func TestFoldedStays(t *testing.T) {
	for _, s := range []string{"", "WwW.Ex", "@AZ[`az{", "Ä", all(), " Text/Plain ; a=b", "\xc4\xff"} {
		once := Fold(s)
		if Fold(once) != once || !Same(s, once) || len(once) != len(s) {
			t.Errorf("%q: %q, and then %q", s, once, Fold(once))
		}
		media := Media(s)
		if Fold(media) != media || Media(media) != media {
			t.Errorf("the media type of %q, %q, isn't folded", s, media)
		}
	}
}

func TestWrittenIsRead(t *testing.T) {
	read := func(n int) {
		s := Number(n)
		if got, ok := Decimal(s, n); got != n || !ok {
			t.Errorf("%d: written %q, read %d, %v", n, s, got, ok)
		}
		if got, ok := Decimal(s, n-1); got != 0 || ok {
			t.Errorf("%d is read as no more than %d: %d, %v", n, n-1, got, ok)
		}
	}
	for n := range 1200 {
		read(n)
	}
	for ten := 10; ten < 1000000000; ten *= 10 {
		for n := ten - 1; n <= ten+1; n++ {
			read(n)
		}
	}
	read(999999999)
}
