package wire_test

import (
	"math/rand"
	"slices"
	"strings"
	"testing"

	"latchkey/api"
	"latchkey/wire"
)

// get is a first line that is right, with its end.
const get = "GET /a HTTP/1.1\r\n"

func messageOf(headers []api.Field, body string) api.Message {
	return api.Message{Method: "GET", Path: "/a", Headers: headers, Body: body}
}

func TestFeedOfTheExamples(t *testing.T) {
	post := api.Message{Method: "POST", Path: "/token", Headers: []api.Field{{Name: "Host", Value: "a.example"}}, Body: "x=1"}
	s, _ := wire.PrintMessage(post)
	r := wire.NewReader()
	if l, e := r.Feed(s[:60]); len(l) != 0 || e != api.OK || r.Waiting() != 60 {
		t.Errorf("a beginning: %q, %d, %d", l, e, r.Waiting())
	}
	if l, e := r.Feed(s[60:]); len(l) != 1 || !sameMessage(l[0], post) || e != api.OK || r.Waiting() != 0 {
		t.Errorf("the rest: %q, %d, %d", l, e, r.Waiting())
	}
	r = wire.NewReader()
	l, e := r.Feed(lines("GET /a HTTP/1.1|host:  b |accept:||GET /b HTTP/1.0||"))
	want := messageOf([]api.Field{{Name: "host", Value: "b"}, {Name: "accept"}}, "")
	if len(l) != 1 || !sameMessage(l[0], want) || e != api.ErrWireLine || r.Waiting() != 0 {
		t.Errorf("one and an error: %q, %d, %d", l, e, r.Waiting())
	}
	if l, e := r.Feed(s); len(l) != 0 || e != api.ErrWireOver {
		t.Errorf("it is over: %q, %d", l, e)
	}
	wantError(t, "GET /a HTTP/1.1\n", api.ErrWireLine)
	wantError(t, get+"Host : x\r\n", api.ErrWireHeader)
	wantError(t, get+"Content-Length: 007\r\n", api.ErrWireLength)
	wantError(t, get+"Content-Length: 3\r\nContent-Length: 3\r\n", api.ErrWireLength)
	wantError(t, get+"Content-Length: 4001\r\n", api.ErrWireLong)
	wantError(t, many(1002, "A"), api.ErrWireLong)
	r = wire.NewReader()
	if l, e := r.Feed(many(1001, "A")); len(l) != 0 || e != api.OK || r.Waiting() != 1001 {
		t.Errorf("1001 letters: %q, %d, %d", l, e, r.Waiting())
	}
}

func TestFeedOfRightTexts(t *testing.T) {
	wantMessage(t, get+"\r\n", messageOf(nil, ""))
	wantMessage(t, "A / HTTP/1.1\r\n\r\n", api.Message{Method: "A", Path: "/"})
	long := api.Message{Method: many(16, "Z"), Path: "/" + many(199, "~")}
	wantMessage(t, long.Method+" "+long.Path+" HTTP/1.1\r\n\r\n", long)
	wantMessage(t, get+"Content-Length: 0\r\n\r\n", messageOf(nil, ""))
	wantMessage(t, get+"content-LENGTH:3\r\n\r\n\r\n\n", messageOf(nil, "\r\n\n"))
	wantMessage(t, get+"Content-Length:   10  \r\n\r\n0123456789", messageOf(nil, "0123456789"))
	wantMessage(t, get+"Content-Length: 4000\r\n\r\n"+many(4000, "\xff"), messageOf(nil, many(4000, "\xff")))
	// The length may stand anywhere among the headers; these are told as they stand, in their order, also those of one name.
	wantMessage(t, get+"b: 1\r\nContent-Length: 1\r\nB:2\r\na:   \r\nb:: x : y  \r\n\r\nz",
		messageOf([]api.Field{{Name: "b", Value: "1"}, {Name: "B", Value: "2"}, {Name: "a"}, {Name: "b", Value: ": x : y"}}, "z"))
	// Whole lines of 1000 bytes, with and without the blank behind the colon.
	wantMessage(t, get+"a: "+many(997, "v")+"\r\na:"+many(998, "w")+"\r\n\r\n",
		messageOf([]api.Field{{Name: "a", Value: many(997, "v")}, {Name: "a", Value: many(998, "w")}}, ""))
	wantMessage(t, get+"a:"+many(998, " ")+"\r\n\r\n", messageOf([]api.Field{{Name: "a"}}, ""))
}

func TestFeedOfSeveralMessages(t *testing.T) {
	r := wire.NewReader()
	s := get + "Content-Length: 2\r\n\r\nab" + "PUT /c HTTP/1.1\r\n\r\n" + get + "Content-Length: 1\r\n\r\nd" + "G"
	l, e := r.Feed(s)
	want := []api.Message{messageOf(nil, "ab"), {Method: "PUT", Path: "/c"}, messageOf(nil, "d")}
	if e != api.OK || !slices.EqualFunc(l, want, sameMessage) || r.Waiting() != 1 {
		t.Errorf("Feed(%q) = %q, %d", s, l, e)
	}
	// What one message said of its length and its headers does not count for the next one.
	full := get + many(32, "a: b\r\n") + "Content-Length: 0\r\n\r\n"
	if l, e := wire.NewReader().Feed(full + full + full); len(l) != 3 || e != api.OK {
		t.Errorf("three full ones: %d, %d", len(l), e)
	}
	// A line's end behind a body belongs to the next message.
	wantFed(t, get+"Content-Length: 1\r\n\r\nx\r\n"+get, nil)
	l, e = wire.NewReader().Feed(get + "Content-Length: 1\r\n\r\nx\r\n" + get + "\r\n")
	if len(l) != 1 || e != api.ErrWireLine {
		t.Errorf("an empty line between two: %q, %d", l, e)
	}
}

func TestFeedOfWrongFirstLines(t *testing.T) {
	for _, line := range []string{
		"", " ", "GET", "GET /a", "GET /a ", "GET  /a HTTP/1.1", "GET /a  HTTP/1.1", " GET /a HTTP/1.1", "GET /a HTTP/1.1 ", "GET\t/a HTTP/1.1",
		"GET /a\tHTTP/1.1", "GET /a HTTP/1.1\t", "GET /a HTTP/1.0", "GET /a HTTP/1.10", "GET /a HTTP/1", "GET /a HTTP/2", "GET /a http/1.1", "GET /a HTTP/1.1\r",
		"GET /a\rHTTP/1.1", "GET/a HTTP/1.1", "GET /aHTTP/1.1", "get /a HTTP/1.1", "GEt /a HTTP/1.1", "G-T /a HTTP/1.1", "G1 /a HTTP/1.1", " /a HTTP/1.1", "/a HTTP/1.1",
		many(17, "M") + " /a HTTP/1.1", "GET a HTTP/1.1", "GET  HTTP/1.1", "GET /" + many(200, "p") + " HTTP/1.1", "GET /a b HTTP/1.1", "GET /\x7f HTTP/1.1",
		"GET /\x1f HTTP/1.1", "GET /\xc3\xa4 HTTP/1.1", "GET /\x00 HTTP/1.1", "G\xc3\xa4T /a HTTP/1.1", "\xef\xbb\xbfGET /a HTTP/1.1", "HTTP/1.1 200 OK", "Host: a",
	} {
		wantError(t, line+"\r\n", api.ErrWireLine)
	}
	for _, s := range []string{"\n", "GET /a HTTP/1.1\n", "GET /a HTTP/1.1\r \n", "GET /a HTTP/1.1 \n", "\rGET /a HTTP/1.1\n", "GET /a\n"} {
		wantError(t, s, api.ErrWireLine)
	}
	for b := range 256 {
		if sign := string([]byte{byte(b)}); b != '\n' {
			for _, s := range []string{sign + " / HTTP/1.1\r\n", "A /" + sign + " HTTP/1.1\r\n", "A " + sign + " HTTP/1.1\r\n", "A" + sign + "/ HTTP/1.1\r\n", "A / HTTP/1.1" + sign + "\n", "A / HTTP/1." + sign + "\r\n"} {
				wantFed(t, s, nil)
				wantFed(t, s, eachByte(s))
			}
		}
	}
}

func TestFeedOfWrongHeaders(t *testing.T) {
	for _, line := range []string{
		"Host", "Host x", " ", "\r", ":", ": x", " :x", "Host : x", " Host: x", "\tHost: x", "Ho st: x", "Host\t: x", "Host\x00: x", "H\xc3\xa4: x", "a(b): x", "a/b: x", `"a": x`,
		"a: \t", "a:\tb", "a: b\tc", "a: b\x00", "a: b\x1f", "a: b\x7f", "a: b\x80", "a: \xc3\xa4", "a: b\r", "a: \rb", "a:\r",
		many(41, "n") + ": x", "Transfer-Encoding: chunked", "transfer-encoding:", "TRANSFER-ENCODING: identity", "Transfer-encoding:  ",
	} {
		wantError(t, get+line+"\r\n", api.ErrWireHeader)
		wantError(t, get+"a: b\r\nContent-Length: 1\r\n"+line+"\r\n", api.ErrWireHeader)
	}
	for _, s := range []string{"\n", "a: b\n", "a: b\r \n", "a: b \n", "\r\r\n", "Content-Length: 3\n", "Transfer-Encoding: x\n"} {
		wantError(t, get+s, api.ErrWireHeader)
	}
	for b := range 256 {
		if sign := string([]byte{byte(b)}); b != '\n' {
			for _, s := range []string{sign + ": x", "a" + sign + "b: x", "a" + sign, "a" + sign + "x", "a:" + sign, "a: " + sign, "a: x" + sign, "a: x" + sign + "y"} {
				wantFed(t, get+s+"\r\n\r\n", nil)
				wantFed(t, get+s+"\r\n\r\n", eachByte(get+s+"\r\n\r\n"))
			}
			wantFed(t, get+sign+"\n", nil)
		}
	}
	wantMessage(t, get+many(40, "n")+":x\r\n\r\n", messageOf([]api.Field{{Name: many(40, "n"), Value: "x"}}, ""))
	wantMessage(t, get+"Transfer-Encodin:x\r\n\r\n", messageOf([]api.Field{{Name: "Transfer-Encodin", Value: "x"}}, ""))
}

func TestFeedOfWrongLengths(t *testing.T) {
	for _, value := range []string{
		"", " ", "00", "01", "007", "0000", "-1", "+1", "-0", "1.0", "1e3", "0x1", "1 2", "1,1", "a", "1a", "a1", "1_0", ":1", "4000a", "99999999999999999999a", "0a", "04001", many(900, "0"),
	} {
		wantError(t, get+"Content-Length: "+value+"\r\n", api.ErrWireLength)
		wantError(t, get+"content-length:"+value+"\r\n", api.ErrWireLength)
	}
	for _, value := range []string{
		"4001", "9999", "10000", "40000", "4294967296", "9223372036854775807", "9223372036854775808", "18446744073709551616", "18446744073709551617", "99999999999999999999", "1" + many(900, "0"),
	} {
		wantError(t, get+"Content-Length: "+value+"\r\n", api.ErrWireLong)
	}
	for _, second := range []string{"3", "4", "0", "", "x", "4001", "99999999999999999999"} {
		wantError(t, get+"Content-Length: 3\r\ncontent-length: "+second+"\r\n", api.ErrWireLength)
		wantError(t, get+"Content-Length: 0\r\nContent-Length: "+second+"\r\n", api.ErrWireLength)
		wantError(t, get+"CONTENT-LENGTH: 3\r\na: b\r\nContent-length:"+second+"\r\n", api.ErrWireLength)
	}
	for b := range 256 {
		if sign := string([]byte{byte(b)}); b != '\n' {
			wantFed(t, get+"Content-Length: "+sign+"\r\n\r\n123456789", nil)
			wantFed(t, get+"Content-Length: 1"+sign+"\r\n\r\n", nil)
		}
	}
}

func TestFeedOfManyHeaders(t *testing.T) {
	full := get + many(32, "a: b\r\n")
	headers := slices.Repeat([]api.Field{{Name: "a", Value: "b"}}, 32)
	wantMessage(t, full+"\r\n", messageOf(headers, ""))
	wantMessage(t, full+"Content-Length: 1\r\n\r\nx", messageOf(headers, "x"))
	wantMessage(t, get+"Content-Length: 1\r\n"+many(32, "a: b\r\n")+"\r\nx", messageOf(headers, "x"))
	wantError(t, full+"a: b\r\n", api.ErrWireLong)
	wantError(t, full+"other:\r\n", api.ErrWireLong)
	wantError(t, full+"Content-Length: 1\r\na: b\r\n", api.ErrWireLong)
	wantError(t, get+"Content-Length: 1\r\n"+many(33, "a: b\r\n"), api.ErrWireLong)
	// A line that may not be is that, also as the 33rd.
	wantError(t, full+"a b\r\n", api.ErrWireHeader)
	wantError(t, full+"a: b\n", api.ErrWireHeader)
	wantError(t, full+"Transfer-Encoding: x\r\n", api.ErrWireHeader)
	wantError(t, full+"Content-Length: x\r\n", api.ErrWireLength)
	wantError(t, full+"Content-Length: 4001\r\n", api.ErrWireLong)
}

func TestFeedOfLongLines(t *testing.T) {
	for _, ahead := range []string{"", get, get + "a: b\r\n"} {
		errno := api.ErrWireHeader
		if ahead == "" {
			errno = api.ErrWireLine
		}
		for _, s := range []string{many(1002, "A"), many(1002, "\r"), many(1002, "\x00"), "a: " + many(999, "v"), "a: " + many(998, "v") + "\r", many(1001, "a") + "\r"} {
			wantError(t, ahead+s, api.ErrWireLong)
			r := wire.NewReader()
			if l, e := r.Feed(ahead + s[:1001]); len(l) != 0 || e != api.OK || r.Waiting() != len(ahead)+1001 {
				t.Errorf("1001 bytes of a line: %q, %d, %d", l, e, r.Waiting())
			}
		}
		// With 1001 bytes and a line feed it is judged as any other.
		wantError(t, ahead+many(1001, "A")+"\n", errno)
		wantError(t, ahead+"a: "+many(998, "v")+"\n", errno)
		wantError(t, ahead+many(1000, "A")+"\r\n", errno)
		wantError(t, ahead+many(1000, "A")+"\n", errno)
	}
	wantMessage(t, get+"a: "+many(997, "v")+"\r\n\r\n", messageOf([]api.Field{{Name: "a", Value: many(997, "v")}}, ""))
	wantError(t, get+"a: "+many(998, "v")+"\r", api.ErrWireLong)
	wantMessage(t, get+"Content-Length:"+many(984, " ")+"1\r\n\r\nx", messageOf(nil, "x"))
	wantError(t, get+"Content-Length:"+many(985, " ")+"1\r", api.ErrWireLong)
	// No line of a body is too long.
	body := many(4000, "\r")
	wantMessage(t, get+"Content-Length: 4000\r\n\r\n"+body, messageOf(nil, body))
}

func TestFeedBesideAnError(t *testing.T) {
	r := wire.NewReader()
	l, e := r.Feed(get + "\r\n" + get + "Content-Length: 1\r\n\r\nx" + get + "a\r\n" + get + "\r\n")
	if !slices.EqualFunc(l, []api.Message{messageOf(nil, ""), messageOf(nil, "x")}, sameMessage) || e != api.ErrWireHeader {
		t.Errorf("two and an error: %q, %d", l, e)
	}
	for _, s := range []string{"", "x", "\n", get + "\r\n", "", many(2000, "A")} {
		if l, e := r.Feed(s); len(l) != 0 || e != api.ErrWireOver || r.Waiting() != 0 {
			t.Errorf("Feed(%.20q) behind an error = %q, %d, %d", s, l, e, r.Waiting())
		}
	}
}

func TestWaiting(t *testing.T) {
	r := wire.NewReader()
	step := func(s string, messages, waiting int) {
		t.Helper()
		l, e := r.Feed(s)
		if len(l) != messages || e != api.OK || r.Waiting() != waiting || r.Waiting() != waiting {
			t.Errorf("Feed(%q) = %q, %d; Waiting %d, want %d", s, l, e, r.Waiting(), waiting)
		}
	}
	if r.Waiting() != 0 {
		t.Errorf("Waiting of a new reader = %d", r.Waiting())
	}
	step("", 0, 0)
	step("G", 0, 1)
	step("", 0, 1)
	step("ET /a HTTP/1.1", 0, 15)
	step("\r", 0, 16)
	step("\n", 0, 17)
	step("Content-Length: 3\r\n", 0, 36)
	step("\r", 0, 37)
	step("\n", 0, 38)
	step("ab", 0, 40)
	step("c", 1, 0)
	step("", 0, 0)
	step(get+"\r", 0, 18)
	step("\n"+get+"\r\n"+get+"a", 2, 18)
	if _, e := r.Feed("\r\n"); e != api.ErrWireHeader || r.Waiting() != 0 {
		t.Errorf("Waiting behind an error: %d, %d", e, r.Waiting())
	}
	if _, e := r.Feed("abc"); e != api.ErrWireOver || r.Waiting() != 0 {
		t.Errorf("Waiting when it is over: %d, %d", e, r.Waiting())
	}
}

func TestReadersKnowNothingOfOneAnother(t *testing.T) {
	random := rand.New(rand.NewSource(54))
	for range 200 {
		texts := []string{spoil(random, someText(random)), someText(random), someText(random)}
		readers := []*wire.Reader{wire.NewReader(), wire.NewReader(), wire.NewReader()}
		at := make([]int, 3)
		for range 60 {
			n := random.Intn(3)
			s := texts[n]
			to := min(len(s), at[n]+random.Intn(60))
			l, errno := readers[n].Feed(s[at[n]:to])
			w := wantOf(s)
			wantL, wantErrno := w.feed(at[n], to)
			if errno != wantErrno || !slices.EqualFunc(l, wantL, sameMessage) || readers[n].Waiting() != w.waiting(to) {
				t.Fatalf("Feed(%q) behind %q = %q, %d, want %q, %d", s[at[n]:to], s[:at[n]], l, errno, wantL, wantErrno)
			}
			at[n] = to
		}
	}
}

func TestFeedAnswersInNewMemory(t *testing.T) {
	s := many(3, get+"a: b c\r\nName: value\r\nContent-Length: 4\r\n\r\nbody")
	r := wire.NewReader()
	first, _ := r.Feed(s)
	second, _ := r.Feed(s)
	if len(first) != 3 || len(second) != 3 {
		t.Fatalf("%d and %d messages", len(first), len(second))
	}
	if share(messagesMemory(first), messagesMemory(second)) {
		t.Error("two answers share memory")
	}
	if share(messagesMemory(first), textMemory(s)) {
		t.Error("an answer shares memory with what was fed")
	}
	if overlap(messagesMemory(first)) {
		t.Error("lists of one answer share memory")
	}
	// Whatever is written into what came out is not seen again, also in spare room.
	for _, m := range first {
		headers := m.Headers[:cap(m.Headers)]
		for n := range headers {
			headers[n] = api.Field{Name: "written", Value: "over"}
		}
	}
	third, _ := r.Feed(s)
	if !slices.EqualFunc(second, third, sameMessage) || strings.Contains(third[0].Headers[0].Name, "written") {
		t.Errorf("%q became %q", second, third)
	}
}
