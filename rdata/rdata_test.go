package rdata_test

import (
	"fmt"
	"math"
	"slices"
	"strings"
	"testing"

	"nuncio/api"
	"nuncio/name"
	"nuncio/rdata"
)

const (
	root = "\x00"
	a    = "\x01a\x00"
	ex   = "\x03www\x02Ex\x00"
)

// zs is a text of so many bytes.
func zs(n int) string { return strings.Repeat("z", n) }

// longest is a name of 255 bytes.
func longest() string {
	s, _ := name.Make(zs(63), zs(63), zs(63), zs(61))
	return s
}

// noNames are bytes that are no name.
func noNames() []string {
	return []string{"", "a", "\x01a", "\x01", "a.", "\x00\x00", "\x01a\x00\x00", "\xc0\x0c", "\x40" + zs(64) + root, longest() + root, "\x01b" + longest()}
}

// others are types of which the document says nothing of their own, OPT among them.
func others() []uint16 {
	return []uint16{0, 3, 4, 7, 11, 13, 14, 17, 27, 29, 32, 34, 40, api.TypeOPT, 42, 43, 99, 255, 256, 257, 262, 271, 289, 1025, 32768, 65535}
}

// kinds are the types that have a shape of their own, and others.
func kinds() []uint16 {
	return append([]uint16{1, 2, 5, 6, 12, 15, 16, 28, 33}, others()...)
}

// shape is what the document says of a type.
func shape(kind uint16) (names, nums, texts int) {
	switch kind {
	case 2, 5, 12:
		return 1, 0, 0
	case 6:
		return 2, 5, 0
	case 15:
		return 1, 1, 0
	case 33:
		return 1, 3, 0
	}
	return 0, 0, 1
}

// right is a record of a type, and the plain bytes of its data.
func right(kind uint16) (api.Record, string) {
	r := api.Record{Name: ex, Type: kind, Class: 1, TTL: 60}
	switch kind {
	case 1:
		r.Texts = []string{"\x01\x02\x03\x04"}
		return r, "\x01\x02\x03\x04"
	case 2, 5, 12:
		r.Names = []string{ex}
		return r, ex
	case 6:
		r.Names, r.Nums = []string{ex, a}, []uint32{0x01020304, 0, math.MaxUint32, 65536, 7}
		return r, ex + a + "\x01\x02\x03\x04\x00\x00\x00\x00\xff\xff\xff\xff\x00\x01\x00\x00\x00\x00\x00\x07"
	case 15:
		r.Names, r.Nums = []string{ex}, []uint32{258}
		return r, "\x01\x02" + ex
	case 16:
		r.Texts = []string{"ab", "", "\x00\xff"}
		return r, "\x02ab\x00\x02\x00\xff"
	case 28:
		r.Texts = []string{"0123456789abcdef"}
		return r, "0123456789abcdef"
	case 33:
		r.Names, r.Nums = []string{ex}, []uint32{258, 0, 65535}
		return r, "\x01\x02\x00\x00\xff\xff" + ex
	}
	r.Texts = []string{"any\x00bytes\xff"}
	return r, "any\x00bytes\xff"
}

// of is a record of a type with these.
func of(kind uint16, names []string, nums []uint32, texts ...string) api.Record {
	return api.Record{Name: a, Type: kind, Class: 1, Names: names, Nums: nums, Texts: texts}
}

// check fails if a record isn't told as that error, or if plain bytes are told of one that isn't right.
func check(t *testing.T, r api.Record, want api.Errno) {
	t.Helper()
	if e := rdata.Check(r); e != want {
		t.Errorf("Check(%s) = %d, want %d", show(r), e, want)
	}
	if s := rdata.Plain(r); want != api.OK && s != "" {
		t.Errorf("Plain(%s) = %.200q of a record that isn't right", show(r), s)
	}
}

// plain fails if a record isn't right, or if its plain bytes are others.
func plain(t *testing.T, r api.Record, want string) {
	t.Helper()
	check(t, r, api.OK)
	if s := rdata.Plain(r); s != want {
		t.Errorf("Plain(%s) = %.200q, want %.200q", show(r), s, want)
	}
}

// show is a record as it is told of, cut off if it is long.
func show(r api.Record) string {
	s := fmt.Sprintf("%q of type %d, class %d, TTL %d: %q %d %q", r.Name, r.Type, r.Class, r.TTL, r.Names, r.Nums, r.Texts)
	return s[:min(len(s), 300)]
}

// P5.1: Shape.

func TestShape(t *testing.T) {
	for kind := range 1 << 16 {
		names, nums, texts := rdata.Shape(uint16(kind))
		if a, b, c := shape(uint16(kind)); names != a || nums != b || texts != c {
			t.Errorf("Shape(%d) = %d, %d, %d, want %d, %d, %d", kind, names, nums, texts, a, b, c)
		}
	}
}

// P5.2: Check, Plain.

func TestRight(t *testing.T) {
	for _, kind := range kinds() {
		r, want := right(kind)
		plain(t, r, want)
	}
	for kind := range 1 << 16 {
		r, want := right(uint16(kind))
		if rdata.Check(r) != api.OK || rdata.Plain(r) != want {
			t.Errorf("%d: Check %d, Plain %q, want %q", kind, rdata.Check(r), rdata.Plain(r), want)
		}
	}
}

func TestExamples(t *testing.T) {
	plain(t, of(api.TypeMX, []string{a}, []uint32{10}), "\x00\x0a\x01a\x00")
	plain(t, of(api.TypeTXT, nil, nil, "a", ""), "\x01a\x00")
}

func TestPlainOfData(t *testing.T) {
	for _, kind := range []uint16{api.TypeNS, api.TypeCNAME, api.TypePTR} {
		plain(t, of(kind, []string{root}, nil), root)
		plain(t, of(kind, []string{longest()}, nil), longest())
	}
	plain(t, of(api.TypeA, nil, nil, "\x00\x00\x00\x00"), "\x00\x00\x00\x00")
	plain(t, of(api.TypeAAAA, nil, nil, strings.Repeat("\xff", 16)), strings.Repeat("\xff", 16))
	plain(t, of(api.TypeSOA, []string{root, ex}, []uint32{1, 2, 3, 4, 5}), root+ex+"\x00\x00\x00\x01\x00\x00\x00\x02\x00\x00\x00\x03\x00\x00\x00\x04\x00\x00\x00\x05")
	plain(t, of(api.TypeSOA, []string{longest(), longest()}, []uint32{1 << 24, 1 << 16, 1 << 8, 255, 0}), longest()+longest()+"\x01\x00\x00\x00\x00\x01\x00\x00\x00\x00\x01\x00\x00\x00\x00\xff\x00\x00\x00\x00")
	plain(t, of(api.TypeMX, []string{root}, []uint32{0}), "\x00\x00\x00")
	plain(t, of(api.TypeMX, []string{longest()}, []uint32{256}), "\x01\x00"+longest())
	plain(t, of(api.TypeSRV, []string{root}, []uint32{1, 2, 3}), "\x00\x01\x00\x02\x00\x03\x00")
	plain(t, of(api.TypeSRV, []string{ex}, []uint32{255, 256, 0x8001}), "\x00\xff\x01\x00\x80\x01"+ex)
	for _, kind := range others() {
		plain(t, of(kind, nil, nil, ""), "")
		plain(t, of(kind, nil, nil, a), a)
	}
}

func TestOtherFieldsArentData(t *testing.T) {
	for _, kind := range kinds() {
		r, want := right(kind)
		for _, s := range []string{root, a, longest()} {
			r.Name = s
			plain(t, r, want)
		}
		for _, class := range []uint16{0, 2, 255, 65535} {
			r.Class = class
			plain(t, r, want)
		}
	}
}

func TestNamesThatAreNone(t *testing.T) {
	for _, kind := range kinds() {
		for _, s := range noNames() {
			r, _ := right(kind)
			r.Name = s
			check(t, r, api.ErrName)
			for i := range r.Names {
				r, _ := right(kind)
				r.Names[i] = s
				check(t, r, api.ErrName)
			}
			// More names than the type has, one of them no name.
			for i := range len(r.Names) + 1 {
				r, _ := right(kind)
				r.Names = slices.Insert(r.Names, i, s)
				check(t, r, api.ErrName)
			}
		}
	}
}

func TestMoreAndFewer(t *testing.T) {
	for _, kind := range kinds() {
		names, nums, texts := shape(kind)
		for i := range names + 4 {
			for j := range nums + 4 {
				for k := range texts + 4 {
					r := of(kind, slices.Repeat([]string{a}, i), slices.Repeat([]uint32{7}, j))
					s := "abcd"
					if kind == api.TypeAAAA {
						s = zs(16)
					}
					r.Texts = slices.Repeat([]string{s}, k)
					want := api.ErrData
					if i == names && j == nums && (k == texts || kind == api.TypeTXT && k > 0) {
						want = api.OK
					}
					check(t, r, want)
				}
			}
		}
	}
}

func TestOneMoreOrFewer(t *testing.T) {
	for _, kind := range kinds() {
		r, _ := right(kind)
		full := r
		if len(full.Names) > 0 {
			r = full
			r.Names = full.Names[1:]
			check(t, r, api.ErrData)
		}
		if len(full.Nums) > 0 {
			r = full
			r.Nums = full.Nums[1:]
			check(t, r, api.ErrData)
		}
		if len(full.Texts) > 0 {
			r = full
			r.Texts = nil
			check(t, r, api.ErrData)
		}
		for _, s := range []string{root, a} {
			r = full
			r.Names = append(slices.Clone(full.Names), s)
			check(t, r, api.ErrData)
		}
		for _, n := range []uint32{0, 1, 65536} {
			r = full
			r.Nums = append(slices.Clone(full.Nums), n)
			check(t, r, api.ErrData)
		}
		if kind != api.TypeTXT {
			for _, s := range append(slices.Clone(full.Texts), "", "a", a) {
				r = full
				r.Texts = append(slices.Clone(full.Texts), s)
				check(t, r, api.ErrData)
			}
		}
		check(t, of(kind, nil, nil), api.ErrData)
	}
}

func TestDataOfAnotherType(t *testing.T) {
	for _, kind := range kinds() {
		for _, other := range kinds() {
			names, nums, texts := shape(kind)
			r, _ := right(other)
			r.Type = kind
			want := api.ErrData
			if len(r.Names) == names && len(r.Nums) == nums && (len(r.Texts) == texts || kind == api.TypeTXT && len(r.Texts) > 0) && (kind == other || kind != api.TypeA && kind != api.TypeAAAA) {
				want = api.OK
			}
			check(t, r, want)
		}
	}
}

func TestSizesOfAddresses(t *testing.T) {
	for n := range 300 {
		for kind, size := range map[uint16]int{api.TypeA: 4, api.TypeAAAA: 16} {
			want := api.ErrData
			if n == size {
				want = api.OK
			}
			check(t, of(kind, nil, nil, zs(n)), want)
		}
	}
	for _, n := range []int{65535, 65536, 65540, 65552} {
		check(t, of(api.TypeA, nil, nil, zs(n)), api.ErrData)
		check(t, of(api.TypeAAAA, nil, nil, zs(n)), api.ErrData)
	}
}

func TestGreatestNumbers(t *testing.T) {
	for _, kind := range []uint16{api.TypeMX, api.TypeSRV, api.TypeSOA} {
		r, _ := right(kind)
		for i := range r.Nums {
			for n, want := range map[uint32]api.Errno{
				0: api.OK, 1: api.OK, 255: api.OK, 256: api.OK, 32768: api.OK, 65534: api.OK, 65535: api.OK,
				65536: api.ErrData, 65537: api.ErrData, 131071: api.ErrData, 1<<31 - 1: api.ErrData, 1 << 31: api.ErrData, math.MaxUint32: api.ErrData,
			} {
				if kind == api.TypeSOA {
					want = api.OK
				}
				r, _ := right(kind)
				r.Nums[i] = n
				check(t, r, want)
			}
		}
	}
}

func TestTexts(t *testing.T) {
	for n := range 256 {
		plain(t, of(api.TypeTXT, nil, nil, zs(n)), string([]byte{byte(n)})+zs(n))
		plain(t, of(api.TypeTXT, nil, nil, "a", zs(n), "b"), "\x01a"+string([]byte{byte(n)})+zs(n)+"\x01b")
	}
	for _, n := range []int{256, 257, 300, 511, 512, 65534, 65535, 65536, 1 << 20} {
		for _, texts := range [][]string{{zs(n)}, {zs(n), ""}, {"", zs(n)}, {"a", zs(n), "b"}, {zs(255), zs(n)}, {zs(n), zs(255)}} {
			check(t, of(api.TypeTXT, nil, nil, texts...), api.ErrData)
		}
	}
}

func TestMostPlainBytesOfTexts(t *testing.T) {
	full := slices.Repeat([]string{zs(255)}, 255) // of 256 bytes each: 65280 in all
	for _, c := range []struct {
		texts []string
		size  int
	}{
		{full, 65280}, {append(slices.Clone(full), zs(253)), 65534}, {append(slices.Clone(full), zs(254)), 65535}, {append([]string{zs(254)}, full...), 65535}, {append(slices.Clone(full), zs(253), ""), 65535}, {append(slices.Clone(full), slices.Repeat([]string{""}, 255)...), 65535},
		{slices.Repeat([]string{""}, 65535), 65535}, {slices.Repeat([]string{"a"}, 32767), 65534}, {append(slices.Repeat([]string{"a"}, 32767), ""), 65535}, {slices.Repeat([]string{zs(254)}, 257), 65535},
		{append(slices.Clone(full), zs(255)), 65536}, {append([]string{zs(255)}, full...), 65536}, {append(slices.Clone(full), zs(254), ""), 65536}, {append([]string{"", zs(254)}, full...), 65536}, {append(slices.Clone(full), slices.Repeat([]string{""}, 256)...), 65536},
		{slices.Repeat([]string{""}, 65536), 65536}, {slices.Repeat([]string{"a"}, 32768), 65536}, {append(slices.Repeat([]string{zs(254)}, 257), ""), 65536},
		{slices.Repeat([]string{zs(255)}, 1000), 256000}, {slices.Repeat([]string{""}, 1<<20), 1 << 20}, {slices.Repeat([]string{zs(15)}, 1<<16), 1 << 20},
	} {
		r := of(api.TypeTXT, nil, nil, c.texts...)
		if c.size > 65535 {
			check(t, r, api.ErrData)
			continue
		}
		check(t, r, api.OK)
		if s := rdata.Plain(r); len(s) != c.size || s[1:1+len(c.texts[0])] != c.texts[0] || s[0] != byte(len(c.texts[0])) {
			t.Errorf("%d texts: %d plain bytes, want %d", len(c.texts), len(s), c.size)
		}
	}
}

func TestMostPlainBytesOfOthers(t *testing.T) {
	for _, kind := range others() {
		for _, n := range []int{254, 255, 256, 4096, 65534, 65535} {
			plain(t, of(kind, nil, nil, zs(n)), zs(n))
		}
		for _, n := range []int{65536, 65537, 131071, 131072, 1 << 20} {
			check(t, of(kind, nil, nil, zs(n)), api.ErrData)
		}
	}
}

func TestTTLs(t *testing.T) {
	for _, kind := range kinds() {
		r, want := right(kind)
		for _, ttl := range []uint32{0, 1, 32768, 1<<31 - 2, 1<<31 - 1} {
			r.TTL = ttl
			plain(t, r, want)
		}
		for _, ttl := range []uint32{1 << 31, 1<<31 + 1, 1<<31 + 60, math.MaxUint32 - 1, math.MaxUint32} {
			r.TTL = ttl
			if kind == api.TypeOPT {
				plain(t, r, want)
			} else {
				check(t, r, api.ErrRange)
			}
		}
	}
}

func TestSeveralErrors(t *testing.T) {
	long := slices.Repeat([]string{zs(255)}, 257)
	for _, kind := range kinds() {
		r, _ := right(kind)
		r.TTL = 1 << 31
		for _, wrong := range []func(r *api.Record){
			func(r *api.Record) { r.Names = append(slices.Clone(r.Names), a) },
			func(r *api.Record) { r.Nums = append(slices.Clone(r.Nums), 0) },
			func(r *api.Record) { r.Names, r.Nums, r.Texts = nil, nil, nil },
			func(r *api.Record) { r.Texts = append(long, zs(65536)) },
		} {
			late := r
			wrong(&late)
			check(t, late, api.ErrData)
			late.TTL = 60
			check(t, late, api.ErrData)
			for _, s := range noNames() {
				both := late
				both.Name = s
				check(t, both, api.ErrName)
				both.TTL = 1 << 31
				check(t, both, api.ErrName)
				both.Name, both.Names = a, append(slices.Clone(late.Names), s)
				check(t, both, api.ErrName)
			}
		}
		r.Name = ""
		check(t, r, api.ErrName)
	}
	check(t, api.Record{}, api.ErrName)
	check(t, api.Record{TTL: math.MaxUint32}, api.ErrName)
	check(t, api.Record{Name: root}, api.ErrData)
	check(t, api.Record{Name: root, TTL: math.MaxUint32, Texts: []string{""}}, api.ErrRange)
}

// P5.3: Copy, Same.

// records are many of them, no two alike, right and wrong ones.
func records() []api.Record {
	list := []api.Record{
		{}, {Name: a}, {Name: "\x01A\x00"}, {Name: "b"}, {Type: 1}, {Type: 256}, {Class: 1}, {Class: 256}, {TTL: 1}, {TTL: 1 << 31}, {TTL: math.MaxUint32},
		{Names: []string{""}}, {Nums: []uint32{0}}, {Texts: []string{""}}, {Names: []string{"", ""}}, {Nums: []uint32{0, 0}}, {Texts: []string{"", ""}},
		{Names: []string{a}}, {Names: []string{"\x01A\x00"}}, {Names: []string{a, ex}}, {Names: []string{ex, a}}, {Names: []string{ex, ex}}, {Names: []string{a + ex}},
		{Nums: []uint32{1}}, {Nums: []uint32{1, 2}}, {Nums: []uint32{2, 1}}, {Nums: []uint32{1, 2, 3}}, {Nums: []uint32{65537}}, {Nums: []uint32{math.MaxUint32}},
		{Texts: []string{a}}, {Texts: []string{"a", "b"}}, {Texts: []string{"b", "a"}}, {Texts: []string{"ab"}}, {Texts: []string{"AB"}}, {Texts: []string{"ab", ""}}, {Texts: []string{"", "ab"}}, {Texts: []string{zs(70000)}}, {Texts: []string{zs(70001)}},
		{Names: []string{a}, Texts: []string{a}}, {Names: []string{a}, Nums: []uint32{1}}, {Nums: []uint32{1}, Texts: []string{a}}, {Names: []string{a}, Nums: []uint32{1}, Texts: []string{a}},
	}
	for _, kind := range kinds() {
		r, _ := right(kind)
		list = append(list, r)
		r.TTL = 1 << 31
		list = append(list, r)
	}
	return list
}

func TestSame(t *testing.T) {
	again := records()
	for i, r := range records() {
		for j, other := range again {
			if rdata.Same(r, other) != (i == j) {
				t.Errorf("Same(%s, %s) = %v", show(r), show(other), i != j)
			}
		}
	}
}

func TestSameOfEachField(t *testing.T) {
	for _, kind := range kinds() {
		r, _ := right(kind)
		for i, change := range []func(r *api.Record){
			func(r *api.Record) { r.Name = "\x03www\x02ex\x00" },
			func(r *api.Record) { r.Type++ },
			func(r *api.Record) { r.Class++ },
			func(r *api.Record) { r.TTL++ },
			func(r *api.Record) { r.Names = append(slices.Clone(r.Names), a) },
			func(r *api.Record) { r.Nums = append(slices.Clone(r.Nums), 0) },
			func(r *api.Record) { r.Texts = append(slices.Clone(r.Texts), "") },
		} {
			other := r
			change(&other)
			if rdata.Same(r, other) || rdata.Same(other, r) || !rdata.Same(other, other) {
				t.Errorf("type %d, change %d: Same %v, turned round %v, with itself %v", kind, i, rdata.Same(r, other), rdata.Same(other, r), rdata.Same(other, other))
			}
		}
		for i := range r.Names {
			other, _ := right(kind)
			other.Names[i] = root
			if rdata.Same(r, other) {
				t.Errorf("type %d: another name at %d", kind, i)
			}
		}
		for i := range r.Nums {
			other, _ := right(kind)
			other.Nums[i] ^= 1 << 31
			if rdata.Same(r, other) {
				t.Errorf("type %d: another number at %d", kind, i)
			}
		}
		for i := range r.Texts {
			other, _ := right(kind)
			other.Texts[i] += "x"
			if rdata.Same(r, other) {
				t.Errorf("type %d: another text at %d", kind, i)
			}
		}
	}
}

// filled is r with empty lists where it has nil ones.
func filled(r api.Record) api.Record {
	if r.Names == nil {
		r.Names = []string{}
	}
	if r.Nums == nil {
		r.Nums = make([]uint32, 0, 4)
	}
	if r.Texts == nil {
		r.Texts = make([]string, 0, 4)
	}
	return r
}

func TestEmptyAndNilLists(t *testing.T) {
	for _, r := range records() {
		f := filled(r)
		if !rdata.Same(r, f) || !rdata.Same(f, r) || !rdata.Same(f, f) || !rdata.Same(rdata.Copy(f), r) || !rdata.Same(rdata.Copy(r), f) {
			t.Errorf("%s isn't the same with empty lists", show(r))
		}
		if rdata.Check(r) != rdata.Check(f) || rdata.Plain(r) != rdata.Plain(f) {
			t.Errorf("%s: Check %d and %d, Plain %.200q and %.200q", show(r), rdata.Check(r), rdata.Check(f), rdata.Plain(r), rdata.Plain(f))
		}
	}
}

// alike: are two records alike? Not by package rdata.
func alike(a, b api.Record) bool {
	return a.Name == b.Name && a.Type == b.Type && a.Class == b.Class && a.TTL == b.TTL && alikeInData(a, b)
}

func TestCopy(t *testing.T) {
	for _, r := range records() {
		c := rdata.Copy(r)
		if !alike(r, c) || !rdata.Same(r, c) {
			t.Errorf("Copy(%s) = %s", show(r), show(c))
		}
		if d := rdata.Copy(c); !alike(r, d) {
			t.Errorf("Copy of the copy of %s = %s", show(r), show(d))
		}
	}
}

// spaced is a record whose lists have spare room, and these lists with it.
func spaced() (r api.Record, names []string, nums []uint32, texts []string) {
	names, nums, texts = []string{a, ex, "spare"}, []uint32{1, 2, 3}, []string{"x", "y", "spare"}
	return api.Record{Name: a, Type: api.TypeTXT, Class: 1, TTL: 5, Names: names[:2], Nums: nums[:2], Texts: texts[:2]}, names, nums, texts
}

func TestCopyIsApart(t *testing.T) {
	r, names, nums, texts := spaced()
	b, c := rdata.Copy(r), rdata.Copy(r)
	b.Names[0], b.Nums[0], b.Texts[0] = "", 9, ""
	b.Names, b.Nums, b.Texts = append(b.Names, "more"), append(b.Nums, 8), append(b.Texts, "more")
	if other, _, _, _ := spaced(); !alike(r, other) || !alike(c, other) {
		t.Errorf("a change of a copy changed %s, or %s", show(r), show(c))
	}
	if names[2] != "spare" || nums[2] != 3 || texts[2] != "spare" {
		t.Errorf("spare room was written: %q, %d, %q", names, nums, texts)
	}
	r.Names[1], r.Nums[1], r.Texts[1] = "", 7, ""
	if other, _, _, _ := spaced(); !alike(c, other) || b.Names[1] != ex || b.Nums[1] != 2 || b.Texts[1] != "y" {
		t.Errorf("a change of a record changed a copy of it: %s or %s", show(b), show(c))
	}
}

func TestArgumentsStay(t *testing.T) {
	for _, kind := range kinds() {
		r, _ := right(kind)
		names, nums, texts := append(r.Names, "spare"), append(r.Nums, 77), append(r.Texts, "spare")
		r.Names, r.Nums, r.Texts = names[:len(r.Names)], nums[:len(r.Nums)], texts[:len(r.Texts)]
		rdata.Check(r)
		rdata.Plain(r)
		rdata.Copy(r)
		rdata.Same(r, r)
		if other, _ := right(kind); !alike(r, other) || names[len(r.Names)] != "spare" || nums[len(r.Nums)] != 77 || texts[len(r.Texts)] != "spare" {
			t.Errorf("type %d: %s, with the spare room %q, %d, %q", kind, show(r), names, nums, texts)
		}
	}
}

// toldText and toldRecord keep answers from being left away by the compiler.
var (
	toldText   string
	toldRecord api.Record
)

func TestAnswersAreNewMemory(t *testing.T) {
	for _, kind := range kinds() {
		r, _ := right(kind)
		if testing.AllocsPerRun(10, func() { toldText = rdata.Plain(r) }) < 1 {
			t.Errorf("type %d: the plain bytes are a piece of the record", kind)
		}
	}
	for _, c := range []struct {
		r     api.Record
		parts float64 // its lists, and all texts
	}{
		{api.Record{Name: ex}, 1},
		{api.Record{Nums: []uint32{1}}, 1},
		{api.Record{Names: []string{ex, longest()}}, 3},
		{api.Record{Texts: []string{zs(40), zs(50)}}, 3},
		{api.Record{Name: ex, Names: []string{ex, longest()}, Nums: []uint32{1, 2}, Texts: []string{zs(40), zs(50)}}, 8},
	} {
		if got := testing.AllocsPerRun(10, func() { toldRecord = rdata.Copy(c.r) }); got < c.parts {
			t.Errorf("the copy of %s has %v parts of its own, want %v", show(c.r), got, c.parts)
		}
	}
}

// P5.4: alike in data just if alike in plain bytes.

// alikeInData: have two records like names, numbers and texts?
func alikeInData(a, b api.Record) bool {
	return slices.Equal(a.Names, b.Names) && slices.Equal(a.Nums, b.Nums) && slices.Equal(a.Texts, b.Texts)
}

// lists are all lists of up to most of these.
func lists[E any](of []E, least, most int) [][]E {
	all, level := [][]E(nil), [][]E{nil}
	for size := 0; size <= most; size++ {
		var longer [][]E
		for _, list := range level {
			if size >= least {
				all = append(all, list)
			}
			for _, e := range of {
				longer = append(longer, append(slices.Clone(list), e))
			}
		}
		level = longer
	}
	return all
}

// crowd are many right records of a type, no two alike, whose data are easily taken for each other.
func crowd(kind uint16) []api.Record {
	names, nums, texts := shape(kind)
	of2 := [][]string{nil}
	if names > 0 {
		of2 = lists([]string{root, a, "\x01A\x00", "\x01\x00\x00", "\x01a\x01a\x00", "\x03a\x01a\x00", "\x02\x00\x01\x00"}, names, names)
	}
	numbers := lists([]uint32{0, 1, 256, 255, 65535}, nums, nums)
	if nums == 5 {
		numbers = lists([]uint32{0, 1, 1 << 24}, nums, nums)
	}
	words := [][]string{nil}
	switch {
	case kind == api.TypeA:
		words = [][]string{{"\x00\x00\x00\x00"}, {"\x00\x00\x00\x01"}, {"\x01\x00\x00\x00"}, {"abcd"}, {"ABCD"}}
	case kind == api.TypeAAAA:
		words = [][]string{{zs(16)}, {zs(15) + "Z"}, {"Z" + zs(15)}, {strings.Repeat("\x00", 16)}}
	case kind == api.TypeTXT:
		words = lists([]string{"", "\x00", "\x01", "\x00\x00", "\x01a", "a", "a\x01a", "\x01\x00\x01", "\x00\x01", "aa"}, 1, 4)
	case texts > 0:
		words = [][]string{{""}, {"\x00"}, {"\x00\x00"}, {"a"}, {"A"}, {"\x01a"}, {zs(65535)}, {zs(65534)}}
	}
	var all []api.Record
	for _, n := range of2 {
		for _, m := range numbers {
			for _, w := range words {
				all = append(all, api.Record{Name: a, Type: kind, Names: n, Nums: m, Texts: w})
			}
		}
	}
	return all
}

func TestPlainBytesTellDataApart(t *testing.T) {
	for _, kind := range kinds() {
		whose := map[string]api.Record{}
		for i, r := range crowd(kind) {
			s := rdata.Plain(r)
			if e := rdata.Check(r); e != api.OK {
				t.Fatalf("type %d: Check(%s) = %d", kind, show(r), e)
			}
			if other, ok := whose[s]; ok {
				t.Fatalf("type %d: %s and %s have the same plain bytes, %.200q", kind, show(r), show(other), s)
			}
			whose[s] = r
			// Alike in data, not in all else: plain bytes tell of data alone.
			twin := rdata.Copy(r)
			twin.Name, twin.Class, twin.TTL = ex, uint16(i), uint32(i)
			if !alikeInData(r, twin) || rdata.Plain(twin) != s {
				t.Fatalf("type %d: %s has the plain bytes %.200q, its twin %.200q", kind, show(r), s, rdata.Plain(twin))
			}
		}
		if len(whose) < 4 {
			t.Errorf("type %d: no more than %d records", kind, len(whose))
		}
	}
}
