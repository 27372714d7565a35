package table_test

import (
	"fmt"
	"math"
	"slices"
	"strings"
	"testing"

	"nuncio/table"
)

// P11.2: At and Find.

// tables are some of all kinds.
func tables() []*table.Table {
	emptied := of(field{"c", "d"}, field{"a", "b"})
	emptied.Resize(0)
	emptied.Resize(100)
	return []*table.Table{table.New(0), table.New(-1), table.New(4096), of(field{"a", "b"}), of(field{"c", "d"}, field{"a", "b"}), emptied}
}

func TestAtOfEachFixedEntry(t *testing.T) {
	if len(fixed) != 61 {
		t.Fatalf("%d fixed entries", len(fixed))
	}
	for _, x := range tables() {
		for i, f := range fixed {
			at(t, x, i+1, f)
		}
		at(t, x, 1, field{":authority", ""})
		at(t, x, 2, field{":method", "GET"})
		at(t, x, 16, field{"accept-encoding", "gzip, deflate"})
		at(t, x, 17, field{"accept-language", ""})
		at(t, x, 61, field{"www-authenticate", ""})
	}
}

// The chapter's text, whose one value with a comma is told apart.
func TestAtIsTheChaptersText(t *testing.T) {
	const chapter = ":authority, :method=GET, :method=POST, :path=/, :path=/index.html, :scheme=http, :scheme=https, :status=200, :status=204, :status=206, :status=304, :status=400, :status=404, :status=500, accept-charset, accept-encoding=gzip, deflate, accept-language, accept-ranges, accept, access-control-allow-origin, age, allow, authorization, cache-control, content-disposition, content-encoding, content-language, content-length, content-location, content-range, content-type, cookie, date, etag, expect, expires, from, host, if-match, if-modified-since, if-none-match, if-range, if-unmodified-since, last-modified, link, location, max-forwards, proxy-authenticate, proxy-authorization, range, referer, refresh, retry-after, server, set-cookie, strict-transport-security, transfer-encoding, user-agent, vary, via, www-authenticate"
	var all []string
	x := table.New(4096)
	for n := 1; n < 62; n++ {
		name, value, _ := x.At(n)
		if value != "" {
			name += "=" + value
		}
		all = append(all, name)
	}
	if got := strings.Join(all, ", "); got != chapter {
		t.Errorf("the fixed entries are %s", got)
	}
}

func TestAtOfNumbersThatHaveNone(t *testing.T) {
	for _, x := range tables() {
		for _, n := range []int{math.MinInt, math.MinInt + 1, math.MinInt32, -62, -61, -2, -1, 0, 62 + x.Len(), 63 + x.Len(), 123 + x.Len(), 4096, 1<<32 + 1, 1<<32 + 62, math.MaxInt32, math.MaxInt - 61, math.MaxInt - 1, math.MaxInt} {
			lacks(t, x, n)
		}
		for n := range 1000 {
			lacks(t, x, -n)
			lacks(t, x, 62+x.Len()+n)
		}
	}
}

func TestAtOfTheTablesEntries(t *testing.T) {
	x := table.New(math.MaxInt)
	for i := range 1000 {
		add(x, numbered(i))
		at(t, x, 61, field{"www-authenticate", ""})
		at(t, x, 62, numbered(i))
		at(t, x, 62+i/2, numbered(i-i/2))
		at(t, x, 62+i, numbered(0))
		lacks(t, x, 62+i+1)
	}
	for i := range 1000 {
		at(t, x, 62+i, numbered(999-i))
	}
}

func TestAtOfAnEntryThatIsEmpty(t *testing.T) {
	x := of(field{"", ""})
	at(t, x, 62, field{"", ""})
	lacks(t, x, 63)
	lacks(t, x, 0)
}

func TestFindEachFixedEntry(t *testing.T) {
	for _, x := range tables() {
		for i, f := range fixed {
			finds(t, x, f[0], f[1], i+1, true)
		}
		finds(t, x, ":method", "GET", 2, true)
		finds(t, x, ":method", "POST", 3, true)
		finds(t, x, ":status", "500", 14, true)
	}
}

func TestFindEachFixedNameWithAnotherValue(t *testing.T) {
	first := map[string]int{}
	for i, f := range slices.Backward(fixed) {
		first[f[0]] = i + 1
	}
	for _, x := range tables() {
		for _, f := range fixed {
			for _, value := range []string{"x", f[1] + " ", " " + f[1], f[1] + "\x00", f[1] + f[1] + "x", "=" + f[1], f[1] + "\n", strings.ToUpper(f[1]) + "X", "gzip,deflate"} {
				finds(t, x, f[0], value, first[f[0]], false)
			}
			for i := range f[1] {
				finds(t, x, f[0], f[1][:i]+f[1][i+1:]+"~", first[f[0]], false)
			}
		}
		for name, n := range map[string]int{":method": 2, ":path": 4, ":scheme": 6, ":status": 8, "accept-encoding": 16} {
			finds(t, x, name, "", n, false)
		}
		finds(t, x, ":method", "PUT", 2, false)
		finds(t, x, ":method", "get", 2, false)
		finds(t, x, ":path", "/dns-query", 4, false)
		finds(t, x, ":scheme", "httpss", 6, false)
		finds(t, x, ":status", "20", 8, false)
		finds(t, x, ":status", "2000", 8, false)
		finds(t, x, ":authority", "www.example.com", 1, false)
		finds(t, x, "www-authenticate", "Basic", 61, false)
	}
}

func TestFindTheValueWithAComma(t *testing.T) {
	x := table.New(4096)
	finds(t, x, "accept-encoding", "gzip, deflate", 16, true)
	for _, value := range []string{"gzip", "deflate", " deflate", "gzip,", "gzip, ", "gzip,deflate", "gzip, deflate, br", "gzip, deflate,", "deflate, gzip", "gzip, deflate\n", "gzip, deflate\naccept-language"} {
		finds(t, x, "accept-encoding", value, 16, false)
	}
	for _, name := range []string{"deflate", " deflate", "gzip", "gzip, deflate", "accept-encoding=gzip", "accept-encoding=gzip, deflate"} {
		finds(t, x, name, "", 0, false)
		finds(t, x, name, "gzip, deflate", 0, false)
	}
}

func TestFindANameThatIsNowhere(t *testing.T) {
	for _, x := range tables() {
		for _, name := range []string{"x-none", "", "=", "\n", ",", ", ", "GET", "/", "200", ":", "authority", ":authorit", ":authority ", ":authority,", ":authority=", ":method=GET", ":method=", ":Method", ":METHOD", "Content-Type", "COOKIE", "accept-", "ccept", "acceptt", "content", "if", "proxy", "www-authenticate\n", "\n:authority", "cookie\ndate", "cookie, date", "www-authenticat"} {
			for _, value := range []string{"", "GET", "b", "d", "/", name} {
				finds(t, x, name, value, 0, false)
			}
		}
	}
}

func TestFindInTheTable(t *testing.T) {
	x := of(field{"e", "f"}, field{"c", "d"}, field{"a", "b"})
	finds(t, x, "e", "f", 62, true)
	finds(t, x, "c", "d", 63, true)
	finds(t, x, "a", "b", 64, true)
	finds(t, x, "e", "d", 62, false)
	finds(t, x, "c", "b", 63, false)
	finds(t, x, "a", "", 64, false)
	finds(t, x, "b", "a", 0, false)
	finds(t, x, "", "b", 0, false)
	finds(t, x, "", "", 0, false)
	finds(t, x, "A", "b", 0, false)
	// The last one that is there, and none any more.
	x.Add("g", "h")
	finds(t, x, "a", "b", 0, false)
	finds(t, x, "c", "d", 64, true)
	finds(t, x, "g", "h", 62, true)
	x.Resize(0)
	finds(t, x, "g", "h", 0, false)
	finds(t, x, "c", "d", 0, false)
	finds(t, x, "cookie", "d", 32, false)
}

func TestFindANameThatIsFixedAndInTheTable(t *testing.T) {
	x := of(field{":status", "201"}, field{":method", "PUT"}, field{"cookie", "a=b"}, field{":status", "204"})
	// The value is in a fixed one.
	finds(t, x, ":status", "200", 8, true)
	finds(t, x, ":status", "500", 14, true)
	finds(t, x, ":method", "POST", 3, true)
	finds(t, x, "cookie", "", 32, true)
	// In the table's.
	finds(t, x, ":status", "201", 62, true)
	finds(t, x, ":method", "PUT", 63, true)
	finds(t, x, "cookie", "a=b", 64, true)
	// In both.
	finds(t, x, ":status", "204", 9, true)
	// In neither.
	finds(t, x, ":status", "202", 8, false)
	finds(t, x, ":status", "", 8, false)
	finds(t, x, ":method", "", 2, false)
	finds(t, x, "cookie", "a", 32, false)
	finds(t, x, "cookie", "a=b ", 32, false)
}

// For each fixed entry: the table's has that name with another value, or is the same one.
func TestFindEachFixedNameThatIsInTheTable(t *testing.T) {
	first := map[string]int{}
	for i, f := range slices.Backward(fixed) {
		first[f[0]] = i + 1
	}
	for i, f := range fixed {
		x := of(f, field{f[0], f[1] + "x"}, field{f[0], "y"}, f)
		finds(t, x, f[0], f[1], i+1, true)
		finds(t, x, f[0], f[1]+"x", 63, true)
		finds(t, x, f[0], "y", 64, true)
		finds(t, x, f[0], "z", first[f[0]], false)
	}
}

func TestFindAFixedEntryWithoutAValue(t *testing.T) {
	x := of(field{"etag", "1"}, field{"etag", ""}, field{"date", ""}, field{"vary", "x"})
	finds(t, x, "etag", "", 34, true)
	finds(t, x, "etag", "1", 62, true)
	finds(t, x, "etag", "2", 34, false)
	finds(t, x, "date", "", 33, true)
	finds(t, x, "date", "today", 33, false)
	finds(t, x, "vary", "", 59, true)
	finds(t, x, "vary", "x", 65, true)
	finds(t, x, "vary", "y", 59, false)
	finds(t, x, "age", "", 21, true)
	finds(t, x, "age", "0", 21, false)
}

func TestFindOneThatIsThereTwice(t *testing.T) {
	x := of(field{"e", "f"}, field{"a", "b"}, field{"a", "c"}, field{"a", "b"}, field{"a", ""}, field{"a", "c"})
	finds(t, x, "a", "b", 63, true)
	finds(t, x, "a", "c", 64, true)
	finds(t, x, "a", "", 66, true)
	finds(t, x, "a", "d", 63, false)
	x.Add("a", "d")
	finds(t, x, "a", "d", 62, true)
	finds(t, x, "a", "b", 64, true)
	finds(t, x, "a", "e", 62, false)
}

func TestFindWhatIsEmpty(t *testing.T) {
	x := of(field{"", "v"}, field{"n", ""}, field{"", ""})
	finds(t, x, "", "", 64, true)
	finds(t, x, "", "v", 62, true)
	finds(t, x, "", "w", 62, false)
	finds(t, x, "n", "", 63, true)
	finds(t, x, "n", "v", 63, false)
	x.Add("x", "y")
	finds(t, x, "", "", 63, false)
	finds(t, x, "", "v", 63, true)
	x.Add("x", "y")
	finds(t, x, "", "", 0, false)
	x = of(field{"", ""})
	finds(t, x, "", "", 62, true)
	finds(t, x, "", "v", 62, false)
}

// Names and values in which what the constant text is cut at stands.
func TestFindWithTheSignsOfTheConstantText(t *testing.T) {
	all := []field{{":method=GET", ""}, {":method", "GET\n:method=POST"}, {"a=b", "c"}, {"a", "b=c"}, {"=", "="}, {"\n", "\n"}, {"cookie\ndate", ""}, {"=a", ""}, {"", "=a"}, {"", "a="}}
	x := of(all...)
	for i, f := range all {
		at(t, x, 62+i, f)
		finds(t, x, f[0], f[1], 62+i, true)
	}
	finds(t, x, "a=b=c", "", 0, false)
	finds(t, x, "a=b", "=c", 64, false)
	finds(t, x, "a", "b", 65, false)
	finds(t, x, ":method", "GET", 2, true)
}

// The name and the value are held for themselves, not their bytes one behind the other.
func TestFindWhereNameAndValueAreCutElsewhere(t *testing.T) {
	x := of(field{"ab", "cd"})
	for i := range 5 {
		if i != 2 {
			finds(t, x, "abcd"[:i], "abcd"[i:], 0, false)
		}
	}
	finds(t, x, "ab", "cd", 62, true)
	finds(t, x, ":methodG", "ET", 0, false)
	finds(t, x, ":metho", "dGET", 0, false)
}

func TestFindInLongTables(t *testing.T) {
	x := table.New(math.MaxInt)
	for i := range 500 {
		x.Add(fmt.Sprint(i%100), fmt.Sprint(i))
	}
	for i := range 500 {
		finds(t, x, fmt.Sprint(i%100), fmt.Sprint(i), 62+499-i, true)
		finds(t, x, fmt.Sprint(i%100), "", 62+99-i%100, false)
	}
	great := strings.Repeat("g", 1<<20)
	x.Add(great, great)
	finds(t, x, great, great, 62, true)
	finds(t, x, great, great[1:], 62, false)
	finds(t, x, great[1:], great, 0, false)
}

func TestAskingChangesNothing(t *testing.T) {
	x := of(field{"c", "d"}, field{"a", "b"})
	for range 3 {
		at(t, x, 63, field{"a", "b"})
		lacks(t, x, 64)
		lacks(t, x, 0)
		finds(t, x, "c", "d", 62, true)
		finds(t, x, "c", "e", 62, false)
		finds(t, x, "e", "", 0, false)
		holds(t, x.Copy(), 68, field{"c", "d"}, field{"a", "b"})
		holds(t, x, 68, field{"c", "d"}, field{"a", "b"})
	}
}
