package settings_test

import (
	"slices"
	"testing"

	"nuncio/api"
	"nuncio/settings"
)

// P16.3: what is told later counts, and told in two lists it is as told in one.

func TestWhatIsToldLaterCounts(t *testing.T) {
	v := settings.Defaults()
	w := v
	w.Window = 200
	applies(t, v, false, w, set(windowID, 100), set(windowID, 200))
	refused(t, v, false, protocol, set(frameID, 100))
	applies(t, v, false, v, set(9, 7))
	for _, v := range lots() {
		for _, client := range both {
			for _, id := range []int{tableID, streamsID, windowID, listID} {
				applies(t, v, client, behind(v, id, 5), set(id, 6), set(id, 5))
				applies(t, v, client, behind(v, id, 0), set(id, 6), set(id, 5), set(id, 0))
				applies(t, v, client, behind(v, id, 6), set(id, 6), set(id, 6))
				// With another one between them.
				applies(t, v, client, behind(behind(v, id, 6), frameID, 16384), set(id, 5), set(frameID, 16384), set(id, 6))
			}
			applies(t, v, client, behind(v, frameID, 16384), set(frameID, 20000), set(frameID, 16384))
			applies(t, v, client, behind(v, frameID, 20000), set(frameID, 16384), set(9, 1), set(frameID, 20000))
			applies(t, v, client, behind(v, pushID, 0), set(pushID, 0), set(pushID, 0))
		}
		applies(t, v, false, behind(v, pushID, 0), set(pushID, 1), set(pushID, 0))
		applies(t, v, false, behind(v, pushID, 1), set(pushID, 0), set(pushID, 1))
		applies(t, v, false, behind(v, pushID, 0), set(pushID, 0), set(pushID, 1), set(pushID, 0))
	}
}

// What was told isn't taken back to a default by a list that doesn't tell of it.
func TestWhatIsNotToldStays(t *testing.T) {
	v := settings.Defaults()
	want := v
	for _, s := range []api.Setting{set(pushID, 0), set(tableID, 0), set(9, 9), set(streamsID, 3), set(windowID, 0), set(frameID, 16999), set(listID, 1)} {
		want = behind(want, int(s.ID), s.Value)
		applies(t, v, true, want, s)
		v, _ = settings.Apply(v, true, s)
	}
	if v != (settings.Values{Streams: 3, Frame: 16999, List: 1}) {
		t.Errorf("%+v", v)
	}
}

// inParts tells a list in two lists, at each place where it may be cut, and one by one.
func inParts(t *testing.T, v settings.Values, client bool, list ...api.Setting) {
	t.Helper()
	whole, code := settings.Apply(v, client, list...)
	if code != fine {
		t.Fatalf("%v has the code %d", list, code)
	}
	for cut := range len(list) + 1 {
		first, a := settings.Apply(v, client, list[:cut]...)
		second, b := settings.Apply(first, client, list[cut:]...)
		if second != whole || a != fine || b != fine {
			t.Fatalf("%v, cut at %d: %+v, %d, %d, as one: %+v", list, cut, second, a, b, whole)
		}
	}
	now := v
	for _, s := range list {
		now, code = settings.Apply(now, client, s)
		if code != fine {
			t.Fatalf("%v has the code %d", s, code)
		}
	}
	if now != whole {
		t.Fatalf("%v, one by one: %+v, as one: %+v", list, now, whole)
	}
}

func TestInTwoListsAsInOne(t *testing.T) {
	for _, v := range lots() {
		for _, client := range both {
			inParts(t, v, client)
			inParts(t, v, client, right...)
			inParts(t, v, client, slices.Repeat(right, 3)...)
			inParts(t, v, client, set(windowID, 100), set(windowID, 200))
			inParts(t, v, client, set(tableID, 1), set(tableID, 0), set(pushID, 0), set(frameID, 16384), set(tableID, 1), set(frameID, 16385))
		}
		inParts(t, v, false, set(pushID, 1), set(pushID, 0), set(pushID, 1))
	}
}

// Of a list in which something is wrong, the part ahead of it holds, if it was told by itself; the code is the same.
func TestAMistakeInTheSecondOfTwoLists(t *testing.T) {
	for _, v := range lots() {
		for _, client := range both {
			for _, m := range mistakes(client) {
				refused(t, v, client, m.code, append(slices.Clone(right), m.s)...)
				first, code := settings.Apply(v, client, right...)
				if code != fine || first.Table != 106 {
					t.Fatal(first, code)
				}
				refused(t, first, client, m.code, m.s)
				refused(t, first, client, m.code, set(tableID, 1), m.s, set(listID, 1))
				// And behind a list that was wrong, the next one is told as if that hadn't been.
				got, _ := settings.Apply(first, client, set(tableID, 1), m.s)
				applies(t, got, client, behind(first, listID, 1), set(listID, 1))
			}
		}
	}
}

// What is handed in stays as it was, the spare room of a list too, and nothing of it is kept.
func TestApplyLeavesWhatIsHandedIn(t *testing.T) {
	for _, client := range both {
		lists := [][]api.Setting{right, {set(9, 9)}}
		for _, m := range mistakes(client) {
			lists = append(lists, []api.Setting{set(tableID, 1), m.s, set(tableID, 2)}, []api.Setting{m.s})
		}
		for _, list := range lists {
			room := append(slices.Clone(list), set(tableID, 77), set(pushID, 78), set(windowID, 79))
			before := slices.Clone(room)
			v := lots()[3]
			handed := v
			got, code := settings.Apply(v, client, room[:len(list)]...)
			if v != handed {
				t.Errorf("the values are %+v", v)
			}
			if !slices.Equal(room, before) {
				t.Errorf("the list, or its spare room, is %v", room)
			}
			for i := range room {
				room[i] = set(tableID, 5)
			}
			if again, c := settings.Apply(v, client, list...); again != got || c != code {
				t.Errorf("%v: %+v, %d, then %+v, %d", list, got, code, again, c)
			}
		}
	}
}

// What one call was told, the next one doesn't know.
func TestApplyKeepsNothing(t *testing.T) {
	d := settings.Defaults()
	for _, client := range both {
		for _, m := range mistakes(client) {
			for _, s := range right {
				settings.Apply(lots()[2], !client, right...)
				settings.Apply(lots()[5], client, m.s, s)
				settings.Parse(sent(s, m.s))
				applies(t, d, client, behind(d, int(s.ID), s.Value), s)
				refused(t, d, client, m.code, m.s)
			}
		}
	}
}
