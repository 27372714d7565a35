package pack_test

import (
	"testing"

	"nuncio/api"
	"nuncio/pack"
	"nuncio/unpack"
)

// The examples of the chapter and of RFC 7541, appendix C; P13.1 and P13.2.

// told1, told2 and told3 are the heads of the requests of C.4.
var (
	told1 = []api.Field{field(":method", "GET"), field(":scheme", "http"), field(":path", "/"), field(":authority", "www.example.com")}
	told2 = append(told1[:4:4], field("cache-control", "no-cache"))
	told3 = []api.Field{field(":method", "GET"), field(":scheme", "https"), field(":path", "/index.html"), field(":authority", "www.example.com"), field("custom-key", "custom-value")}
)

func TestExample(t *testing.T) {
	c := pack.New()
	holds(t, c, 4096)
	writes(t, c, "\x82\x86\x84\x41\x8c\xf1\xe3\xc2\xe5\xf2\x3a\x6b\xa0\xab\x90\xf4\xff", told1...)
	holds(t, c, 4096, told1[3])
	writes(t, c, "\x82\x86\x84\xbe\x58\x86\xa8\xeb\x10\x64\x9c\xbf", told2...)
	holds(t, c, 4096, told2[4], told1[3])
}

func TestRequestsOfTheRFC(t *testing.T) {
	c, d := pack.New(), unpack.New()
	for _, x := range []struct {
		block  string
		fields []api.Field
	}{
		{"8286 8441 8cf1 e3c2 e5f2 3a6b a0ab 90f4 ff", told1},
		{"8286 84be 5886 a8eb 1064 9cbf", told2},
		{"8287 85bf 4088 25a8 49e9 5ba9 7d7f 8925 a849 e95b b8e8 b4bf", told3},
	} {
		writes(t, c, bytes(x.block), x.fields...)
		follows(t, d, c, bytes(x.block), x.fields...)
	}
	holds(t, c, 4096, told3[4], told2[4], told1[3])
}

// With a table of 256, of which entries go. (307 stands as it is: its codes are three bytes, too, though the RFC writes them.)
func TestAnswersOfTheRFC(t *testing.T) {
	status302, status307, status200 := field(":status", "302"), field(":status", "307"), field(":status", "200")
	private := field("cache-control", "private")
	date1, date2 := field("date", "Mon, 21 Oct 2013 20:13:21 GMT"), field("date", "Mon, 21 Oct 2013 20:13:22 GMT")
	location := field("location", "https://www.example.com")
	gzip := field("content-encoding", "gzip")
	cookie := field("set-cookie", "foo=ASDJKHQKBZXOQWEOPIUAXQWEOIU; max-age=3600; version=1")
	c := limited(256)
	writes(t, c, bytes("4882 6402 5885 aec3 771a 4b61 96d0 7abe 9410 54d4 44a8 2005 9504 0b81 66e0 82a6 2d1b ff6e 919d 29ad 1718 63c7 8f0b 97c8 e9ae 82ae 43d3"), status302, private, date1, location)
	holds(t, c, 256, location, date1, private, status302)
	writes(t, c, bytes("4803 3330 37c1 c0bf"), status307, private, date1, location)
	holds(t, c, 256, status307, location, date1, private)
	writes(t, c, bytes("88c1 6196 d07a be94 1054 d444 a820 0595 040b 8166 e084 a62d 1bff c05a 839b d9ab 77ad 94e7 821d d7f2 e6c7 b335 dfdf cd5b 3960 d5af 2708 7f36 72c1 ab27 0fb5 291f 9587 3160 65c0 03ed 4ee5 b106 3d50 07"), status200, private, date2, location, gzip, cookie)
	holds(t, c, 256, cookie, gzip, date2)
}
