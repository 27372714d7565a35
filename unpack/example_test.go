package unpack_test

import (
	"testing"

	"nuncio/api"
	"nuncio/unpack"
)

// The examples of the chapter and of RFC 7541, appendix C; P12.1 and P12.3.

// told1, told2 and told3 are the heads of the requests of C.3 and C.4.
var (
	told1 = []api.Field{field(":method", "GET"), field(":scheme", "http"), field(":path", "/"), field(":authority", "www.example.com")}
	told2 = append(told1[:4:4], field("cache-control", "no-cache"))
	told3 = []api.Field{field(":method", "GET"), field(":scheme", "https"), field(":path", "/index.html"), field(":authority", "www.example.com"), field("custom-key", "custom-value")}
)

func TestExample(t *testing.T) {
	d := unpack.New()
	reads(t, d, "\x82\x86\x84\x41\x0fwww.example.com", told1...)
	reads(t, d, "\x82\x86\x84\xbe\x58\x08no-cache", told2...)
}

// C.2: each row with a text or an index by itself.
func TestSingleFieldsOfTheRFC(t *testing.T) {
	d := unpack.New()
	reads(t, d, bytes("400a 6375 7374 6f6d 2d6b 6579 0d63 7573 746f 6d2d 6865 6164 6572"), field("custom-key", "custom-header"))
	holds(t, d, 4096, field("custom-key", "custom-header"))
	d = unpack.New()
	reads(t, d, bytes("040c 2f73 616d 706c 652f 7061 7468"), field(":path", "/sample/path"))
	holds(t, d, 4096)
	d = unpack.New()
	reads(t, d, bytes("1008 7061 7373 776f 7264 0673 6563 7265 74"), never("password", "secret"))
	holds(t, d, 4096)
	d = unpack.New()
	reads(t, d, bytes("82"), field(":method", "GET"))
	holds(t, d, 4096)
}

// C.3 and C.4: the same requests, their texts as they are and decoded.
func TestRequestsOfTheRFC(t *testing.T) {
	for _, blocks := range [][]string{
		{
			"8286 8441 0f77 7777 2e65 7861 6d70 6c65 2e63 6f6d",
			"8286 84be 5808 6e6f 2d63 6163 6865",
			"8287 85bf 400a 6375 7374 6f6d 2d6b 6579 0c63 7573 746f 6d2d 7661 6c75 65",
		},
		{
			"8286 8441 8cf1 e3c2 e5f2 3a6b a0ab 90f4 ff",
			"8286 84be 5886 a8eb 1064 9cbf",
			"8287 85bf 4088 25a8 49e9 5ba9 7d7f 8925 a849 e95b b8e8 b4bf",
		},
	} {
		d := unpack.New()
		reads(t, d, bytes(blocks[0]), told1...)
		holds(t, d, 4096, told1[3])
		reads(t, d, bytes(blocks[1]), told2...)
		holds(t, d, 4096, told2[4], told1[3])
		reads(t, d, bytes(blocks[2]), told3...)
		holds(t, d, 4096, told3[4], told2[4], told1[3])
	}
}

// C.5 and C.6: the same answers, with a table of 256, of which entries go.
func TestAnswersOfTheRFC(t *testing.T) {
	status302, status307, status200 := field(":status", "302"), field(":status", "307"), field(":status", "200")
	private := field("cache-control", "private")
	date1, date2 := field("date", "Mon, 21 Oct 2013 20:13:21 GMT"), field("date", "Mon, 21 Oct 2013 20:13:22 GMT")
	location := field("location", "https://www.example.com")
	gzip := field("content-encoding", "gzip")
	cookie := field("set-cookie", "foo=ASDJKHQKBZXOQWEOPIUAXQWEOIU; max-age=3600; version=1")
	for _, blocks := range [][]string{
		{
			"4803 3330 3258 0770 7269 7661 7465 611d 4d6f 6e2c 2032 3120 4f63 7420 3230 3133 2032 303a 3133 3a32 3120 474d 546e 1768 7474 7073 3a2f 2f77 7777 2e65 7861 6d70 6c65 2e63 6f6d",
			"4803 3330 37c1 c0bf",
			"88c1 611d 4d6f 6e2c 2032 3120 4f63 7420 3230 3133 2032 303a 3133 3a32 3220 474d 54c0 5a04 677a 6970 7738 666f 6f3d 4153 444a 4b48 514b 425a 584f 5157 454f 5049 5541 5851 5745 4f49 553b 206d 6178 2d61 6765 3d33 3630 303b 2076 6572 7369 6f6e 3d31",
		},
		{
			"4882 6402 5885 aec3 771a 4b61 96d0 7abe 9410 54d4 44a8 2005 9504 0b81 66e0 82a6 2d1b ff6e 919d 29ad 1718 63c7 8f0b 97c8 e9ae 82ae 43d3",
			"4883 640e ffc1 c0bf",
			"88c1 6196 d07a be94 1054 d444 a820 0595 040b 8166 e084 a62d 1bff c05a 839b d9ab 77ad 94e7 821d d7f2 e6c7 b335 dfdf cd5b 3960 d5af 2708 7f36 72c1 ab27 0fb5 291f 9587 3160 65c0 03ed 4ee5 b106 3d50 07",
		},
	} {
		d := unpack.New()
		reads(t, d, size(256)+bytes(blocks[0]), status302, private, date1, location)
		holds(t, d, 256, location, date1, private, status302)
		reads(t, d, bytes(blocks[1]), status307, private, date1, location)
		holds(t, d, 256, status307, location, date1, private)
		reads(t, d, bytes(blocks[2]), status200, private, date2, location, gzip, cookie)
		holds(t, d, 256, cookie, gzip, date2)
	}
}
