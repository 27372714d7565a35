package settings_test

import (
	"slices"
	"testing"

	"nuncio/api"
	"nuncio/frame"
	"nuncio/settings"
)

// P16.1: Defaults, Parse.

func TestDefaults(t *testing.T) {
	v := settings.Defaults()
	for _, x := range []struct {
		name      string
		got, want uint32
	}{
		{"Table", v.Table, 4096},
		{"Streams", v.Streams, 4294967295},
		{"Window", v.Window, 65535},
		{"Frame", v.Frame, 16384},
		{"List", v.List, 4294967295},
	} {
		if x.got != x.want {
			t.Errorf("%s is %d, want %d", x.name, x.got, x.want)
		}
	}
	if !v.Push {
		t.Error("Push is false")
	}
}

// What is done with the defaults that were answered, the next ones don't have.
func TestDefaultsStay(t *testing.T) {
	v, first := settings.Defaults(), settings.Defaults()
	v.Table, v.Streams, v.Window, v.Frame, v.List, v.Push = 1, 2, 3, 4, 5, false
	settings.Apply(settings.Defaults(), false, set(tableID, 6), set(pushID, 0), set(streamsID, 7), set(windowID, 8), set(frameID, 20000), set(listID, 9))
	settings.Parse(sent(set(tableID, 6), set(pushID, 0)))
	if again := settings.Defaults(); again != first {
		t.Errorf("%+v, at first %+v", again, first)
	}
}

func TestParse(t *testing.T) {
	parses(t, "")
	parses(t, bytes("0001 00000005"), set(1, 5))
	parses(t, bytes("0102 03040506"), api.Setting{ID: 0x0102, Value: 0x03040506})
	parses(t, bytes("fefd fcfbfaf9"), api.Setting{ID: 0xfefd, Value: 0xfcfbfaf9})
	parses(t, bytes("0000 00000000"), set(0, 0))
	parses(t, bytes("0000 00000001"), set(0, 1))
	parses(t, bytes("0001 00000000"), set(1, 0))
	parses(t, bytes("ffff ffffffff"), set(65535, most))
	// In their order, and one more than once.
	parses(t, bytes("0004 00000064  0004 000000c8  0001 00000000  0004 00000064"), set(4, 100), set(4, 200), set(1, 0), set(4, 100))
	// Which may not be told, Parse doesn't ask.
	parses(t, bytes("0002 00000002  0004 80000000  0005 00003fff  0005 01000000  0063 ffffffff"), set(2, 2), set(4, 1<<31), set(5, 16383), set(5, 1<<24), set(99, most))
}

// Fewer than six bytes at the end play no part, whatever they are, if settings are ahead of them or not.
func TestParseOfBytesBehind(t *testing.T) {
	ends := []string{"\x00\x00\x00\x00\x00", "\x00\x01\x00\x00\x00", "\x00\x02\x00\x00\x00", "\xff\xff\xff\xff\xff", "\x04\x05\x06\x01\x02"}
	for count := range 40 {
		var ahead []api.Setting
		for i := range count {
			ahead = append(ahead, set(i*7777, uint32(i*99999999)))
		}
		for _, end := range ends {
			for n := range 6 {
				parses(t, sent(ahead...)+end[:n], ahead...)
			}
			parses(t, sent(ahead...)+end+"\x07", append(slices.Clone(ahead), set(int(end[0])<<8|int(end[1]), uint32(end[2])<<24|uint32(end[3])<<16|uint32(end[4])<<8|7))...)
		}
	}
}

// Data that is cut off anywhere has the settings that are there as a whole.
func TestParseOfDataThatIsCut(t *testing.T) {
	all := []api.Setting{set(1, 4096), set(0, 0), set(65535, most), set(2, 1), set(258, 50595078), set(6, 1<<31), set(5, 16384)}
	data := sent(all...)
	for n := range len(data) + 1 {
		parses(t, data[:n], all[:n/6]...)
	}
}

// Of each byte, which place it has in a number.
func TestParseOfEachByte(t *testing.T) {
	for n := range 256 {
		for place := range 18 {
			b := make([]byte, 18)
			b[place] = byte(n)
			want := make([]api.Setting, 3)
			switch at := place % 6; at {
			case 0, 1:
				want[place/6].ID = uint16(n) << (8 - 8*at)
			default:
				want[place/6].Value = uint32(n) << (40 - 8*at)
			}
			parses(t, string(b), want...)
		}
	}
}

func TestParseOfEachID(t *testing.T) {
	for id := range 65536 {
		parses(t, sent(set(id, 77)), set(id, 77))
	}
}

func TestParseOfValues(t *testing.T) {
	for _, n := range numbers() {
		for id := range 8 {
			parses(t, sent(set(id, n), set(9, n)), set(id, n), set(9, n))
		}
	}
}

// What layer 14 puts into a frame is read out of it, in any number.
func TestParseOfFrames(t *testing.T) {
	var all []api.Setting
	for i := range 200000 {
		all = append(all, api.Setting{ID: uint16(i * 7), Value: uint32(i) * 77777})
	}
	for count := range 3000 {
		parses(t, frame.Settings(all[:count]...).Data, all[:count]...)
	}
	parses(t, frame.Settings(all...).Data, all...)
}

// Lists that were answered are the caller's: what is done to them, and to their spare room, no other one has.
func TestParseAnswersNewMemory(t *testing.T) {
	want := []api.Setting{set(1, 2), set(3, 4), set(5, 6)}
	data := sent(want...)
	var lists [][]api.Setting
	for range 5 {
		lists = append(lists, settings.Parse(data))
	}
	for i := range lists {
		// The room of each is overwritten, and all of its own settings.
		room := lists[i][:cap(lists[i])]
		for k := range room {
			room[k] = set(99, 99)
		}
		for k := i + 1; k < len(lists); k++ {
			if !slices.Equal(lists[k], want) {
				t.Fatalf("list %d has changed: %v", k, lists[k])
			}
		}
		parses(t, data, want...)
		parses(t, "")
	}
}
