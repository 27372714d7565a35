package feed_test

import (
	"strings"
	"testing"

	"nuncio/feed"
)

// P15.1 and P15.2: New, and the preface.

func TestNew(t *testing.T) {
	for _, wants := range []bool{true, false} {
		is(t, feed.New(wants), 0, false)
	}
}

func TestNothingAdded(t *testing.T) {
	for _, wants := range []bool{true, false} {
		f := feed.New(wants)
		for range 3 {
			adds(t, f, "", 0)
		}
	}
	f := feed.New(true)
	adds(t, f, "", 0)
	for i := range 24 {
		adds(t, f, preface[i:i+1], (i+1)%24)
		adds(t, f, "", (i+1)%24)
	}
	adds(t, f, settings, 0, emptySettings)
	adds(t, f, "", 0)
	adds(t, f, "\x00", 1)
	adds(t, f, "", 1)
}

func TestExample(t *testing.T) {
	f := feed.New(true)
	adds(t, f, "PRI * HTTP/2.0\r\n", 16)
	adds(t, f, "\r\nSM\r\n\r\n", 0)
	adds(t, f, bytes("00 00 00 04 00 00 00 00 00"), 0, emptySettings)

	f = feed.New(true)
	adds(t, f, "PRI * HT", 8)
	adds(t, f, "TP/2.0\r\n\r\nSM\r\n\r\n"+bytes("00 00 00 04 00 00 00 00 00"), 0, emptySettings)
}

func TestPrefaceInOnePiece(t *testing.T) {
	adds(t, feed.New(true), preface, 0)
}

func TestPrefaceCutAtEachByte(t *testing.T) {
	for i := range 24 {
		f := feed.New(true)
		adds(t, f, preface[:i], i)
		adds(t, f, preface[i:], 0)
		adds(t, f, settings, 0, emptySettings)
		for j := i; j < 24; j++ {
			f := feed.New(true)
			adds(t, f, preface[:i], i)
			adds(t, f, preface[i:j], j)
			adds(t, f, preface[j:]+settings+settings[:5], 5, emptySettings)
		}
	}
}

func TestPrefaceByteByByte(t *testing.T) {
	f := feed.New(true)
	for i := range 23 {
		adds(t, f, preface[i:i+1], i+1)
	}
	adds(t, f, preface[23:], 0)
	adds(t, f, settings, 0, emptySettings)
}

// What follows it in its piece is taken for frames at once.
func TestBytesBehindThePrefaceInItsPiece(t *testing.T) {
	ping := of(6, 0, 0, "12345678")
	for i := range 24 {
		for _, x := range []struct {
			bytes string
			held  int
		}{{"", 0}, {"\x00", 1}, {settings[:8], 8}, {head(16384, 0, 0, 1), 9}} {
			f := feed.New(true)
			adds(t, f, preface[:i], i)
			adds(t, f, preface[i:]+x.bytes, x.held)
		}
		f := feed.New(true)
		adds(t, f, preface[:i], i)
		adds(t, f, preface[i:]+sent(emptySettings, ping)+"\x00\x00", 2, emptySettings, ping)
		f = feed.New(true)
		adds(t, f, preface[:i], i)
		fails(t, f, preface[i:]+head(16385, 0, 0, 1), frameSize)
		stays(t, f)
		f = feed.New(true)
		adds(t, f, preface[:i], i)
		fails(t, f, preface[i:]+sent(emptySettings, ping)+head(16385, 0, 0, 1), frameSize, emptySettings, ping)
		stays(t, f)
	}
}

// Each byte, each other value: told as soon as it is there, by whatever pieces those ahead of it came.
func TestEachByteOfThePrefaceWrong(t *testing.T) {
	for i := range 24 {
		for value := range 256 {
			if byte(value) == preface[i] {
				continue
			}
			wrong := char(value)
			fails(t, feed.New(true), preface[:i]+wrong, protocol)
			f := feed.New(true)
			fails(t, f, preface[:i]+wrong+preface[i+1:]+settings, protocol)
			stays(t, f)
			f = feed.New(true)
			for j := range i {
				adds(t, f, preface[j:j+1], j+1)
			}
			fails(t, f, wrong, protocol)
			stays(t, f)
		}
	}
}

func TestEachByteOfThePrefaceWrongBehindAnEarlierPiece(t *testing.T) {
	for i := range 24 {
		wrong := char(int(preface[i]) ^ 0x20)
		for at := range i + 1 {
			for _, rest := range []string{"", preface[i+1:], preface[i+1:] + settings, preface[i:] + settings, preface, anything} {
				f := feed.New(true)
				adds(t, f, preface[:at], at)
				fails(t, f, preface[at:i]+wrong+rest, protocol)
				stays(t, f)
			}
		}
	}
}

func TestOtherBeginnings(t *testing.T) {
	for _, s := range []string{
		"GET / HTTP/1.1\r\n\r\n", "pri * http/2.0\r\n\r\nsm\r\n\r\n", "PRI * HTTP/2.0\n\nSM\n\n", "PRI * HTTP/2.0\r\n\r\nSM\r\n\n", "PRI * HTTP/1.1\r\n\r\nSM\r\n\r\n",
		"RI * HTTP/2.0\r\n\r\nSM\r\n\r\n", " " + preface, "\r\n" + preface, "P" + preface, "\x00" + preface, "\x16\x03\x01", "\x00", "\xff", settings, settings + preface, head(16385, 0, 0, 0),
		strings.Repeat("P", 24), strings.Repeat("\x00", 24), preface[:12] + preface, preface[1:],
	} {
		f := feed.New(true)
		fails(t, f, s, protocol)
		stays(t, f)
	}
}

// Nine bytes of it would be a head that is too long, were they taken for one.
func TestThePrefaceIsNotTakenForAFrame(t *testing.T) {
	for size := 9; size < 24; size++ {
		adds(t, feed.New(true), preface[:size], size)
	}
}

// Behind the first one it is bytes of frames as any others.
func TestThePrefaceIsWantedOnce(t *testing.T) {
	f := behind(t, true)
	adds(t, f, preface[:8], 8)
	fails(t, f, preface[8:], frameSize)
	fails(t, feed.New(true), preface+preface, frameSize)
	adds(t, feed.New(true), preface+preface[:8], 8)
	f = behind(t, true)
	adds(t, f, settings, 0, emptySettings)
	fails(t, f, preface+settings, frameSize)
	stays(t, f)
	// A byte that isn't of it neither.
	f = behind(t, true)
	adds(t, f, "\x00", 1)
	adds(t, f, settings[1:], 0, emptySettings)
}

func TestAFeedThatDoesNotWantThePreface(t *testing.T) {
	adds(t, feed.New(false), settings, 0, emptySettings)
	f := feed.New(false)
	for i := range 8 {
		adds(t, f, preface[i:i+1], i+1)
	}
	fails(t, f, preface[8:9], frameSize)
	stays(t, f)
	fails(t, feed.New(false), preface, frameSize)
	fails(t, feed.New(false), preface+settings, frameSize)
	// Of what would be wrong with it nothing is.
	adds(t, feed.New(false), "X", 1)
	adds(t, feed.New(false), "GET / HT", 8)
}
