package settings_test

import (
	"encoding/hex"
	"fmt"
	"slices"
	"strings"
	"testing"

	"nuncio/api"
	"nuncio/settings"
)

const (
	// The codes and the settings, as RFC 9113 numbers them.
	fine      = 0
	protocol  = 1
	flow      = 3
	tableID   = 1
	pushID    = 2
	streamsID = 3
	windowID  = 4
	frameID   = 5
	listID    = 6
	// The greatest number of 32 bits, and of 31.
	most   = 1<<32 - 1
	most31 = 1<<31 - 1
)

// both are what client may be.
var both = []bool{false, true}

// greatIDs are some of which the lower or the upper half, or the lower bits, are as those of an ID that plays a part.
var greatIDs = []uint16{0x0100, 0x0101, 0x0102, 0x0103, 0x0104, 0x0105, 0x0106, 0x0200, 0x0300, 0x0400, 0x0500, 0x0600, 0x8001, 0x8002, 0x8004, 0x8005, 0xff02, 0xff04, 0xff05, 0xfffe, 0xffff}

// set is a setting.
func set(id int, value uint32) api.Setting { return api.Setting{ID: uint16(id), Value: value} }

// bytes are those of hexadecimal digits, with spaces between them.
func bytes(digits string) string {
	b, err := hex.DecodeString(strings.ReplaceAll(digits, " ", ""))
	if err != nil {
		panic(err)
	}
	return string(b)
}

// sent are the bytes of settings.
func sent(list ...api.Setting) string {
	var b strings.Builder
	for _, s := range list {
		b.WriteString(bytes(fmt.Sprintf("%04x%08x", s.ID, s.Value)))
	}
	return b.String()
}

// numbers are some at which something changes, for one of the settings at least, and those about them.
func numbers() []uint32 {
	var all []uint32
	for _, n := range []uint32{0, 100, 4096, 16384, 65535, 1 << 24, 1 << 31} {
		all = append(all, n-2, n-1, n, n+1, n+2)
	}
	for bit := range 32 {
		all = append(all, 1<<bit, ^uint32(1<<bit), 1<<bit-1)
	}
	slices.Sort(all)
	return slices.Compact(all)
}

// lots are values of all kinds: the defaults, others that may be told, and some that may not.
func lots() []settings.Values {
	return []settings.Values{
		settings.Defaults(),
		{},
		{Table: 11, Streams: 12, Window: 13, Frame: 16385, List: 15},
		{Table: 21, Streams: 22, Window: 23, Frame: 16386, List: 25, Push: true},
		{Table: most, Streams: 0, Window: most31, Frame: 1<<24 - 1, List: 0},
		{Table: most, Streams: most, Window: most, Frame: most, List: most, Push: true},
	}
}

// parses fails if others than these settings stand in some data.
func parses(t *testing.T, data string, want ...api.Setting) {
	t.Helper()
	if got := settings.Parse(data); !slices.Equal(got, want) {
		t.Errorf("Parse(%s) = %s, want %s", told(data), toldList(got), toldList(want))
	}
}

// applies fails if settings that may be told lead to other values than these.
func applies(t *testing.T, v settings.Values, client bool, want settings.Values, list ...api.Setting) {
	t.Helper()
	if got, code := settings.Apply(v, client, list...); got != want || code != fine {
		t.Errorf("Apply(%+v, %t, %s) = %+v, %d, want %+v, 0", v, client, toldList(list), got, code, want)
	}
}

// refused fails if the answer is another one than the values that were handed in and a code.
func refused(t *testing.T, v settings.Values, client bool, code uint32, list ...api.Setting) {
	t.Helper()
	if got, c := settings.Apply(v, client, list...); got != v || c != code {
		t.Errorf("Apply(%+v, %t, %s) = %+v, %d, want what was handed in and %d", v, client, toldList(list), got, c, code)
	}
}

// told is a text as a failure tells it, a long one by its first bytes.
func told(s string) string {
	if len(s) <= 60 {
		return fmt.Sprintf("% x", s)
	}
	return fmt.Sprintf("% x .. (%d bytes)", s[:60], len(s))
}

// toldList is that for settings.
func toldList(list []api.Setting) string {
	if len(list) <= 10 {
		return fmt.Sprint(list)
	}
	return fmt.Sprintf("%v .. (%d settings)", list[:10], len(list))
}
