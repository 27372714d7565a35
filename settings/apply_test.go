package settings_test

import (
	"slices"
	"testing"

	"nuncio/api"
	"nuncio/settings"
)

// P16.2: Apply.

// behind are the values behind one setting that may be told.
func behind(v settings.Values, id int, value uint32) settings.Values {
	switch id {
	case 1:
		v.Table = value
	case 2:
		v.Push = value != 0
	case 3:
		v.Streams = value
	case 4:
		v.Window = value
	case 5:
		v.Frame = value
	case 6:
		v.List = value
	}
	return v
}

func TestApplyOfNoSettings(t *testing.T) {
	for _, v := range lots() {
		for _, client := range both {
			applies(t, v, client, v)
			applies(t, v, client, v, []api.Setting{}...)
		}
	}
}

func TestApplyOfEach(t *testing.T) {
	v := settings.Values{Table: 11, Streams: 12, Window: 13, Frame: 14, List: 15}
	for _, client := range both {
		applies(t, v, client, settings.Values{Table: 7, Streams: 12, Window: 13, Frame: 14, List: 15}, set(1, 7))
		applies(t, v, client, settings.Values{Table: 11, Streams: 7, Window: 13, Frame: 14, List: 15}, set(3, 7))
		applies(t, v, client, settings.Values{Table: 11, Streams: 12, Window: 7, Frame: 14, List: 15}, set(4, 7))
		applies(t, v, client, settings.Values{Table: 11, Streams: 12, Window: 13, Frame: 20000, List: 15}, set(5, 20000))
		applies(t, v, client, settings.Values{Table: 11, Streams: 12, Window: 13, Frame: 14, List: 7}, set(6, 7))
		applies(t, v, client, v, set(2, 0))
		applies(t, v, client, v, set(7, 7))
	}
	applies(t, v, false, settings.Values{Table: 11, Streams: 12, Window: 13, Frame: 14, List: 15, Push: true}, set(2, 1))
}

// The Table, the Streams and the List may be any number.
func TestApplyOfAnyNumber(t *testing.T) {
	for _, v := range lots() {
		for _, client := range both {
			for _, id := range []int{tableID, streamsID, listID} {
				for _, n := range numbers() {
					applies(t, v, client, behind(v, id, n), set(id, n))
				}
			}
		}
	}
}

// A server is told whether it may push; a client is never told that it may.
func TestApplyOfPush(t *testing.T) {
	for _, v := range lots() {
		on, off := v, v
		on.Push, off.Push = true, false
		applies(t, v, false, off, set(pushID, 0))
		applies(t, v, true, off, set(pushID, 0))
		applies(t, v, false, on, set(pushID, 1))
		refused(t, v, true, protocol, set(pushID, 1))
		for _, n := range numbers() {
			if n > 1 {
				refused(t, v, false, protocol, set(pushID, n))
				refused(t, v, true, protocol, set(pushID, n))
			}
		}
	}
}

func TestApplyOfWindow(t *testing.T) {
	for _, v := range lots() {
		for _, client := range both {
			for _, n := range []uint32{0, 1, 65535, 65536, most31 - 1, most31} {
				applies(t, v, client, behind(v, windowID, n), set(windowID, n))
			}
			for _, n := range []uint32{1 << 31, 1<<31 + 1, most - 1, most} {
				refused(t, v, client, flow, set(windowID, n))
			}
			for _, n := range numbers() {
				if n <= most31 {
					applies(t, v, client, behind(v, windowID, n), set(windowID, n))
				} else {
					refused(t, v, client, flow, set(windowID, n))
				}
			}
		}
	}
}

func TestApplyOfFrame(t *testing.T) {
	for _, v := range lots() {
		for _, client := range both {
			for _, n := range []uint32{16384, 16385, 65535, 16777214, 16777215} {
				applies(t, v, client, behind(v, frameID, n), set(frameID, n))
			}
			for _, n := range []uint32{0, 1, 100, 16382, 16383, 16777216, 16777217, 1<<24 + 16384, most31, 1 << 31, 1<<31 + 16384, most} {
				refused(t, v, client, protocol, set(frameID, n))
			}
			for _, n := range numbers() {
				if n >= 16384 && n < 16777216 {
					applies(t, v, client, behind(v, frameID, n), set(frameID, n))
				} else {
					refused(t, v, client, protocol, set(frameID, n))
				}
			}
		}
	}
}

// All numbers of a frame that may be told and lie about the least, or the greatest, one by one.
func TestApplyOfFramesInARow(t *testing.T) {
	v := settings.Defaults()
	for _, middle := range []uint32{16384, 1 << 24} {
		for n := middle - 16000; n < middle+16000; n++ {
			if n >= 16384 && n < 1<<24 {
				applies(t, v, true, behind(v, frameID, n), set(frameID, n))
			} else {
				refused(t, v, true, protocol, set(frameID, n))
			}
		}
	}
}

// Any other ID plays no part, whatever its value.
func TestApplyOfOtherIDs(t *testing.T) {
	v := lots()[2]
	for id := range 65536 {
		if id >= 1 && id <= 6 {
			continue
		}
		for _, n := range []uint32{0, 1, 2, 16384, 1 << 31, most} {
			applies(t, v, id%2 == 0, v, set(id, n))
		}
	}
	others := []uint16{0, 7, 8, 9}
	for _, id := range append(others, greatIDs...) {
		for _, v := range lots() {
			for _, client := range both {
				for _, n := range numbers() {
					applies(t, v, client, v, set(int(id), n))
					// Nor do those about it hang on it.
					applies(t, v, client, behind(v, tableID, 8), set(int(id), n), set(tableID, 8), set(int(id), n))
				}
			}
		}
	}
}

// All of them at one time, in any order.
func TestApplyOfAll(t *testing.T) {
	all := []api.Setting{set(tableID, 1), set(pushID, 1), set(streamsID, 2), set(windowID, 3), set(frameID, 20004), set(listID, 5)}
	want := settings.Values{Table: 1, Streams: 2, Window: 3, Frame: 20004, List: 5, Push: true}
	for _, v := range lots() {
		inEachOrder(all, func(list []api.Setting) { applies(t, v, false, want, list...) })
	}
	all[1].Value, want.Push = 0, false
	for _, client := range both {
		inEachOrder(all, func(list []api.Setting) { applies(t, settings.Defaults(), client, want, list...) })
	}
}

// inEachOrder tells a list in each order that it may have.
func inEachOrder(list []api.Setting, tell func(list []api.Setting)) {
	var rest func(n int)
	list = slices.Clone(list)
	rest = func(n int) {
		if n == len(list) {
			tell(list)
			return
		}
		for i := n; i < len(list); i++ {
			list[n], list[i] = list[i], list[n]
			rest(n + 1)
			list[n], list[i] = list[i], list[n]
		}
	}
	rest(0)
}

// mistake is a setting that may not be told, and its code.
type mistake struct {
	s    api.Setting
	code uint32
}

// mistakes are some for a side that is told them; client: that may not be told of push at all.
func mistakes(client bool) []mistake {
	all := []mistake{
		{set(pushID, 2), protocol}, {set(pushID, 3), protocol}, {set(pushID, 256), protocol}, {set(pushID, 1<<31), protocol}, {set(pushID, most), protocol},
		{set(windowID, 1<<31), flow}, {set(windowID, 1<<31+1), flow}, {set(windowID, most), flow},
		{set(frameID, 0), protocol}, {set(frameID, 16383), protocol}, {set(frameID, 1<<24), protocol}, {set(frameID, most), protocol},
	}
	if client {
		all = append(all, mistake{set(pushID, 1), protocol})
	}
	return all
}

// right are settings that change all that there is, and some that play no part.
var right = []api.Setting{set(tableID, 101), set(pushID, 0), set(streamsID, 102), set(windowID, 103), set(frameID, 20104), set(listID, 105), set(0, 2), set(9, most), set(tableID, 106), set(streamsID, 107)}

// One that is wrong undoes all that are told with it, ahead of it and behind it.
func TestApplyOfOneMistake(t *testing.T) {
	for _, v := range lots() {
		for _, client := range both {
			for _, m := range mistakes(client) {
				refused(t, v, client, m.code, m.s)
				for place := range len(right) + 1 {
					refused(t, v, client, m.code, slices.Insert(slices.Clone(right), place, m.s)...)
				}
				for _, s := range right {
					refused(t, v, client, m.code, s, m.s)
					refused(t, v, client, m.code, m.s, s)
				}
			}
		}
	}
}

// That it is made good behind it plays no part, nor that it was right ahead of it.
func TestApplyOfAMistakeThatIsMadeGood(t *testing.T) {
	for _, v := range lots() {
		for _, client := range both {
			for _, m := range mistakes(client) {
				good := m.s
				good.Value = 0
				if good.ID == frameID {
					good.Value = 16384
				}
				applies(t, v, client, behind(v, int(good.ID), good.Value), good)
				refused(t, v, client, m.code, m.s, good)
				refused(t, v, client, m.code, good, m.s)
				refused(t, v, client, m.code, good, m.s, good)
			}
		}
	}
}

// Of several, the first one's code is told.
func TestApplyOfTwoMistakes(t *testing.T) {
	v := lots()[2]
	for _, client := range both {
		for _, a := range mistakes(client) {
			for _, b := range mistakes(client) {
				refused(t, v, client, a.code, a.s, b.s)
				refused(t, v, client, a.code, set(tableID, 1), a.s, b.s, set(tableID, 2))
				refused(t, v, client, a.code, set(9, 1), a.s, set(listID, 1), b.s)
			}
		}
	}
	refused(t, v, false, flow, set(windowID, 1<<31), set(frameID, 0), set(pushID, 2))
	refused(t, v, false, protocol, set(frameID, 0), set(windowID, 1<<31), set(pushID, 2))
	refused(t, v, true, protocol, set(pushID, 1), set(windowID, 1<<31))
	// What only a client may not be told is none for a server.
	refused(t, v, false, flow, set(pushID, 1), set(windowID, 1<<31))
}
