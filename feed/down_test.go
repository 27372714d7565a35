package feed_test

import (
	"testing"

	"nuncio/api"
	"nuncio/feed"
)

// P15.1 and P15.2: who is down.

// failing are feeds, and what they are down behind.
type failing struct {
	name  string
	some  func() *feed.Feed
	wrong string
	code  uint32
	ahead []api.Frame
}

// failings are some of each code.
func failings(t *testing.T) []failing {
	frames := []api.Frame{emptySettings, of(0, 1, 5, "body")}
	wants := func() *feed.Feed { return feed.New(true) }
	without := func() *feed.Feed { return feed.New(false) }
	had := func() *feed.Feed { return behind(t, true) }
	within := func() *feed.Feed {
		f := feed.New(true)
		adds(t, f, preface[:23], 23)
		return f
	}
	half := func() *feed.Feed {
		f := behind(t, true)
		adds(t, f, settings+head(0xffffff, 0, 0, 0)[:8], 8, emptySettings)
		return f
	}
	long := head(16385, 0, 0, 1)
	return []failing{
		{"another first byte", wants, "X", protocol, nil},
		{"frames without the preface", wants, settings, protocol, nil},
		{"another last byte", within, "\r", protocol, nil},
		{"another byte within", wants, preface[:10] + "x" + preface[11:] + settings, protocol, nil},
		{"a length behind the preface", wants, preface + long, frameSize, nil},
		{"a length behind the rest of the preface", within, "\n" + long + settings, frameSize, nil},
		{"a length", had, long, frameSize, nil},
		{"a length, no preface", without, long + filler(16385) + settings, frameSize, nil},
		{"a length's last byte", half, "\x00", frameSize, nil},
		{"a length behind frames", had, sent(frames...) + long, frameSize, frames},
		{"a length ahead of frames", had, sent(frames...) + long + sent(frames...), frameSize, frames},
		{"a length behind the preface and frames", wants, preface + sent(frames...) + long, frameSize, frames},
	}
}

func TestNotDownWhileNothingIsWrong(t *testing.T) {
	f := feed.New(true)
	for at := range 24 {
		adds(t, f, preface[at:at+1], (at+1)%24)
	}
	for range 100 {
		adds(t, f, settings+settings[:3], 3, emptySettings)
		adds(t, f, "", 3)
		adds(t, f, settings[3:], 0, emptySettings)
	}
}

// Nothing is held, nothing is answered any more, whatever comes.
func TestAFeedThatIsDownStaysSo(t *testing.T) {
	for _, x := range failings(t) {
		t.Run(x.name, func(t *testing.T) {
			f := x.some()
			fails(t, f, x.wrong, x.code, x.ahead...)
			stays(t, f)
			for _, y := range failings(t) {
				if list, code := f.Add(y.wrong); len(list) != 0 || code != fine {
					t.Errorf("down, Add(%s) = %s, %d", told(y.wrong), toldFrames(list), code)
				}
				is(t, f, 0, true)
			}
			for at := range preface {
				f.Add(preface[at : at+1])
			}
			stays(t, f)
		})
	}
}

// One that is down changes nothing on another, nor does one that holds bytes.
func TestFeedsGoTheirOwnWays(t *testing.T) {
	for _, x := range failings(t) {
		a, b, c := feed.New(false), feed.New(true), x.some()
		adds(t, a, settings[:5], 5)
		adds(t, b, preface[:7], 7)
		fails(t, c, x.wrong, x.code, x.ahead...)
		is(t, a, 5, false)
		is(t, b, 7, false)
		adds(t, b, preface[7:], 0)
		adds(t, a, settings[5:], 0, emptySettings)
		adds(t, b, settings, 0, emptySettings)
		fails(t, feed.New(true), settings, protocol)
		adds(t, feed.New(false), settings, 0, emptySettings)
		stays(t, c)
	}
}
