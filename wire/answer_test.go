package wire_test

import (
	"math/rand"
	"slices"
	"testing"

	"latchkey/api"
	"latchkey/wire"
)

// wantAnswer is that a text, and more behind it, is this answer, and each of its beginnings is short.
func wantAnswer(t *testing.T, s string, want api.Answer) {
	t.Helper()
	for _, more := range []string{"", "x", "\r\n", s, "\x00\xff"} {
		if a, rest, errno := wire.ParseAnswer(s + more); errno != api.OK || rest != more || !sameAnswer(a, want) {
			t.Errorf("ParseAnswer(%q) = %#v, %q, %d, want %#v, %q", s+more, a, rest, errno, want, more)
		}
	}
	for n := range len(s) {
		wantRefused(t, s[:n], api.ErrWireShort)
	}
}

func wantRefused(t *testing.T, s string, errno api.Errno) {
	t.Helper()
	if a, rest, e := wire.ParseAnswer(s); e != errno || rest != "" || a.Status != 0 || len(a.Headers) != 0 || a.Body != "" {
		t.Errorf("ParseAnswer(%q) = %#v, %q, %d, want %d", s, a, rest, e, errno)
	}
}

// wantWrong is that a text is wrong with its last byte, whatever stands behind it.
func wantWrong(t *testing.T, s string, errno api.Errno) {
	t.Helper()
	wantRefused(t, s[:len(s)-1], api.ErrWireShort)
	wantRefused(t, s, errno)
	wantRefused(t, s+"\r\n\r\n", errno)
	wantRefused(t, s+"\n\x00", errno)
}

func TestParseAnswerOfTheExamples(t *testing.T) {
	wantAnswer(t, lines("HTTP/1.1 200 OK|Content-Length: 2||{}"), api.Answer{Status: 200, Body: "{}"})
	wantRefused(t, lines("HTTP/1.1 204 |"), api.ErrWireShort)
	wantWrong(t, lines("HTTP/1.1 99 x|"), api.ErrWireLine)
}

func TestParseAnswerOfRightTexts(t *testing.T) {
	wantAnswer(t, lines("HTTP/1.1 204 ||"), api.Answer{Status: 204})
	wantAnswer(t, lines("HTTP/1.1 100  ||"), api.Answer{Status: 100})
	wantAnswer(t, lines("HTTP/1.1 599 200 no OK! ~ ||"), api.Answer{Status: 599})
	wantAnswer(t, lines("HTTP/1.1 200 "+many(987, "r")+"||"), api.Answer{Status: 200})
	wantAnswer(t, lines("HTTP/1.1 200 Created|a:b|content-length:1 |A:  c  ||")+"\n",
		api.Answer{Status: 200, Headers: []api.Field{{Name: "a", Value: "b"}, {Name: "A", Value: "c"}}, Body: "\n"})
	wantAnswer(t, lines("HTTP/1.1 200 OK|Content-Length: 4000||")+many(4000, "\n"), api.Answer{Status: 200, Body: many(4000, "\n")})
	headers := slices.Repeat([]api.Field{{Name: "a", Value: "b"}}, 32)
	wantAnswer(t, lines("HTTP/1.1 200 OK|"+many(32, "a: b|")+"Content-Length: 1||x"), api.Answer{Status: 200, Headers: headers, Body: "x"})
}

func TestParseAnswerOfWrongFirstLines(t *testing.T) {
	for _, line := range []string{
		"", " ", "HTTP/1.1", "HTTP/1.1 ", "HTTP/1.1 200", "HTTP/1.1  200 OK", " HTTP/1.1 200 OK", "HTTP/1.1\t200 OK", "HTTP/1.1 200\tOK", "HTTP/1.0 200 OK", "HTTP/2 200 OK", "http/1.1 200 OK", "HTTP/1.1200 OK",
		"HTTP/1.1 200OK", "HTTP/1.1 20 OK", "HTTP/1.1 2000 OK", "HTTP/1.1 0200 OK", "HTTP/1.1 020 OK", "HTTP/1.1 +20 OK", "HTTP/1.1 -20 OK", "HTTP/1.1 2a0 OK", "HTTP/1.1 200. OK", "HTTP/1.1 099 OK", "HTTP/1.1 99 OK", "HTTP/1.1 000 OK",
		"HTTP/1.1 600 OK", "HTTP/1.1 999 OK", "HTTP/1.1 200 a\tb", "HTTP/1.1 200 \x7f", "HTTP/1.1 200 \x1f", "HTTP/1.1 200 \xc3\xa4", "HTTP/1.1 200 OK\r", "HTTP/1.1 200 \r", "HTTP/1.1 200 \x00", "OK 200 HTTP/1.1", "GET /a HTTP/1.1", "200 OK", "200 ", "/1.1 200 OK",
	} {
		wantWrong(t, line+"\r\n", api.ErrWireLine)
	}
	for _, s := range []string{"\n", "HTTP/1.1 200 OK\n", "HTTP/1.1 200 \n", "HTTP/1.1 200 OK\r \n"} {
		wantWrong(t, s, api.ErrWireLine)
	}
	for status := range 1000 {
		wantParsed(t, "HTTP/1.1 "+padded(status)+" x\r\n\r\n")
	}
	for b := range 256 {
		sign := string([]byte{byte(b)})
		for _, s := range []string{"HTTP/1.1 200 " + sign + "\r\n\r\n", "HTTP/1.1 200" + sign + "OK\r\n\r\n", "HTTP/1.1 " + sign + "00 OK\r\n\r\n", "HTTP/1.1 20" + sign + " OK\r\n\r\n", "HTTP/1.1" + sign + "200 OK\r\n\r\n", "HTTP/1.1 200 OK" + sign + "\n\r\n"} {
			wantParsed(t, s)
		}
	}
}

// padded is a number by three digits.
func padded(n int) string {
	return string([]byte{byte('0' + n/100), byte('0' + n/10%10), byte('0' + n%10)})
}

func TestParseAnswerOfWrongHeaders(t *testing.T) {
	const ok = "HTTP/1.1 200 OK\r\n"
	for line, errno := range map[string]api.Errno{
		"Host\r\n": api.ErrWireHeader, "Host : x\r\n": api.ErrWireHeader, "a: b\n": api.ErrWireHeader, "\n": api.ErrWireHeader, "a: \t\r\n": api.ErrWireHeader,
		"Transfer-Encoding: chunked\r\n": api.ErrWireHeader, "Content-Length: 01\r\n": api.ErrWireLength, "Content-Length:\r\n": api.ErrWireLength,
		"Content-Length: 1\r\nContent-Length: 1\r\n": api.ErrWireLength, "Content-Length: 4001\r\n": api.ErrWireLong,
		many(33, "a: b\r\n"): api.ErrWireLong, "a: " + many(999, "v"): api.ErrWireLong, "a: " + many(998, "v") + "\r": api.ErrWireLong,
	} {
		wantWrong(t, ok+line, errno)
	}
	wantRefused(t, many(1001, "A"), api.ErrWireShort)
	wantRefused(t, many(1002, "A"), api.ErrWireLong)
	wantWrong(t, "HTTP/1.1 200 "+many(988, "r")+"\r", api.ErrWireLong)
}

func TestParseAnswerOfSome(t *testing.T) {
	r := rand.New(rand.NewSource(55))
	for range 5000 {
		a := someAnswer(r)
		first := "HTTP/1.1 " + padded(a.Status) + " " + from(r, between(32, 126), someSize(r, 40))
		s := loose(r, first, a.Headers, a.Body)
		more := from(r, between(0, 255), r.Intn(5))
		got, rest, errno := wire.ParseAnswer(s + more)
		if errno != api.OK || rest != more || !sameAnswer(got, a) {
			t.Fatalf("ParseAnswer(%q) = %#v, %q, %d, want %#v, %q", s+more, got, rest, errno, a, more)
		}
		wantParsed(t, s+more)
		for range 3 {
			s = spoil(r, s)
			wantParsed(t, s+more)
		}
	}
}

func TestParseAnswerInNewMemory(t *testing.T) {
	s := lines("HTTP/1.1 200 OK|a: b c|Name: value|Content-Length: 4||bodymore behind it")
	a, rest, _ := wire.ParseAnswer(s)
	b, other, _ := wire.ParseAnswer(s)
	of := func(a api.Answer, rest string) []memory {
		return append(headersMemory(a.Headers), textMemory(a.Body, rest)...)
	}
	if share(of(a, rest), of(b, other)) || share(of(a, rest), textMemory(s)) || overlap(of(a, rest)) {
		t.Error("an answer shares memory")
	}
}
