package settings_test

import (
	"encoding/binary"
	"math/rand"
	"slices"
	"testing"

	"nuncio/api"
	"nuncio/settings"
)

// All three promises held against a model of them: rows of what each setting may be, values by their numbers.

// values are those of the settings 1 to 6, 2 being Push; 0 plays no part.
type values [7]int64

// row is what a setting may be, and the code if it isn't.
type row struct{ least, most, code int64 }

// rows are those of the settings 0 to 6, as one side tells them to the other.
func rows(client bool) [7]row {
	free := row{0, 1<<32 - 1, 0}
	all := [7]row{free, free, {0, 1, 1}, free, {0, 1<<31 - 1, 3}, {1 << 14, 1<<24 - 1, 1}, free}
	if client {
		all[2].most = 0
	}
	return all
}

// model is what Apply answers, gone through from behind: the last one of each ID counts, and of those that are wrong the first.
func model(v values, client bool, list []api.Setting) (values, int64) {
	now, seen, code := v, [7]bool{}, int64(0)
	for _, s := range slices.Backward(list) {
		if s.ID > 6 || s.ID == 0 {
			continue
		}
		r, n := rows(client)[s.ID], int64(s.Value)
		if n < r.least || n > r.most {
			code = r.code
		}
		if !seen[s.ID] {
			seen[s.ID], now[s.ID] = true, n
		}
	}
	if code > 0 {
		return v, code
	}
	return now, 0
}

// numbered are values by their numbers.
func numbered(v settings.Values) values {
	all := values{0, int64(v.Table), 0, int64(v.Streams), int64(v.Window), int64(v.Frame), int64(v.List)}
	if v.Push {
		all[2] = 1
	}
	return all
}

// matches fails if Apply answers otherwise than the model; it answers the code.
func matches(t *testing.T, v settings.Values, client bool, list []api.Setting) uint32 {
	t.Helper()
	want, wantCode := model(numbered(v), client, list)
	got, code := settings.Apply(v, client, list...)
	if numbered(got) != want || int64(code) != wantCode {
		t.Fatalf("Apply(%+v, %t, %v) = %+v, %d, want %v, %d", v, client, list, got, code, want, wantCode)
	}
	return code
}

// Rows of up to three out of many settings, for all values there are here.
func TestApplyOfAllShortLists(t *testing.T) {
	all := []api.Setting{
		set(0, 2), set(tableID, 0), set(tableID, most), set(pushID, 0), set(pushID, 1), set(pushID, 2), set(streamsID, 0), set(streamsID, 9),
		set(windowID, 0), set(windowID, most31), set(windowID, 1<<31), set(frameID, 16383), set(frameID, 16384), set(frameID, 1<<24-1), set(frameID, 1<<24),
		set(listID, 0), set(listID, 77), set(7, 1), set(0x0102, 2), set(0x8004, 1<<31), set(65535, most),
	}
	for _, v := range lots() {
		for _, client := range both {
			matches(t, v, client, nil)
			for _, a := range all {
				matches(t, v, client, []api.Setting{a})
				for _, b := range all {
					matches(t, v, client, []api.Setting{a, b})
					for _, c := range all {
						matches(t, v, client, []api.Setting{a, b, c})
					}
				}
			}
		}
	}
}

// generated is a setting, one that may be told, if none may be wrong.
func generated(r *rand.Rand, all []uint32, wrong bool) api.Setting {
	id := r.Intn(10)
	if r.Intn(8) == 0 {
		id = r.Intn(65536)
	}
	n := all[r.Intn(len(all))]
	if r.Intn(4) == 0 {
		n = r.Uint32() >> r.Intn(32)
	}
	if wrong && r.Intn(4) == 0 {
		return set(id, n)
	}
	switch id {
	case pushID:
		n %= 2
	case windowID:
		n %= 1 << 31
	case frameID:
		n = 16384 + n%(1<<24-16384)
	}
	return set(id, n)
}

func TestApplyOfGeneratedLists(t *testing.T) {
	r := rand.New(rand.NewSource(16))
	all := numbers()
	count := map[uint32]int{}
	for range 300000 {
		v := lots()[r.Intn(6)]
		for range r.Intn(4) {
			one := make([]api.Setting, r.Intn(12))
			for i := range one {
				one[i] = generated(r, all, r.Intn(2) == 0)
			}
			client := r.Intn(2) == 0
			code := matches(t, v, client, one)
			count[code]++
			if code == fine && len(one) > 0 {
				cut := r.Intn(len(one))
				first, _ := settings.Apply(v, client, one[:cut]...)
				second, _ := settings.Apply(v, client, one...)
				applies(t, first, client, second, one[cut:]...)
			}
			v, _ = settings.Apply(v, client, one...)
		}
	}
	for _, code := range []uint32{fine, protocol, flow} {
		if count[code] < 3000 {
			t.Errorf("the code %d: %d times", code, count[code])
		}
	}
}

// modelParse cuts six bytes off as long as there are that many.
func modelParse(data string) (list []api.Setting) {
	for b := []byte(data); len(b) >= 6; b = b[6:] {
		list = append(list, api.Setting{ID: binary.BigEndian.Uint16(b[:2]), Value: binary.BigEndian.Uint32(b[2:6])})
	}
	return list
}

func TestParseOfGeneratedData(t *testing.T) {
	r := rand.New(rand.NewSource(17))
	for n := range 2000 {
		for range 10 {
			b := make([]byte, n)
			r.Read(b)
			parses(t, string(b), modelParse(string(b))...)
		}
		if t.Failed() {
			return
		}
	}
}
