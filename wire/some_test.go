package wire_test

import (
	"math/rand"
	"strconv"
	"strings"

	"latchkey/api"
)

// from is a text of so many of these bytes.
func from(r *rand.Rand, bytes string, n int) string {
	b := make([]byte, n)
	for i := range b {
		b[i] = bytes[r.Intn(len(bytes))]
	}
	return string(b)
}

// between are the bytes from one to another.
func between(from, to byte) string {
	var b []byte
	for c := int(from); c <= int(to); c++ {
		b = append(b, byte(c))
	}
	return string(b)
}

const (
	upper     = "ABCDEFGHIJKLMNOPQRSTUVWXYZ"
	digits    = "0123456789"
	nameBytes = "abcdefghijklmnopqrstuvwxyz" + upper + digits + "!#$%&'*+-.^_|~\x60"
)

// someSize is 0 to most, often small, or just the most.
func someSize(r *rand.Rand, most int) int {
	switch r.Intn(8) {
	case 0:
		return most
	case 1:
		return r.Intn(most + 1)
	}
	return r.Intn(min(most, 8) + 1)
}

// someName is one that a header may have.
func someName(r *rand.Rand) string {
	if r.Intn(8) == 0 {
		return []string{"Host", "Content-Lengt", "Content-Length-", "Transfer_Encoding", "TE", "0", "\x60", "~", "content.length"}[r.Intn(9)]
	}
	return from(r, nameBytes, 1+someSize(r, 39))
}

// someValue is one that a header may have.
func someValue(r *rand.Rand, most int) string {
	s := from(r, between(32, 126), someSize(r, most))
	if r.Intn(3) == 0 {
		s = from(r, " :,a", len(s))
	}
	return strings.Trim(s, " ")
}

func someHeaders(r *rand.Rand) []api.Field {
	n := someSize(r, 4)
	if r.Intn(8) == 0 {
		n = 32 - r.Intn(3)
	}
	headers := make([]api.Field, n)
	for i := range headers {
		name := someName(r)
		most := 40
		if r.Intn(10) == 0 {
			most = 998 - len(name)
		}
		headers[i] = api.Field{Name: name, Value: someValue(r, most)}
	}
	return headers
}

// someBody is of any bytes, or of such as lines have.
func someBody(r *rand.Rand) string {
	most := 30
	if r.Intn(10) == 0 {
		most = 4000
	}
	switch r.Intn(3) {
	case 0:
		return ""
	case 1:
		return from(r, between(0, 255), someSize(r, most))
	}
	return from(r, "\r\n: a0", someSize(r, most))
}

// someMessage is one that may be.
func someMessage(r *rand.Rand) api.Message {
	return api.Message{
		Method:  from(r, upper, 1+someSize(r, 15)),
		Path:    "/" + from(r, between(33, 126), someSize(r, 199)),
		Headers: someHeaders(r),
		Body:    someBody(r),
	}
}

// someAnswer is one that may be.
func someAnswer(r *rand.Rand) api.Answer {
	status := 100 + r.Intn(500)
	if r.Intn(3) == 0 {
		status = []int{100, 599, 200, 201, 400, 401, 403, 404, 405, 415, 429, 500, 503}[r.Intn(13)]
	}
	return api.Answer{Status: status, Headers: someHeaders(r), Body: someBody(r)}
}

// blanks are none, or a few.
func blanks(r *rand.Rand) string { return many(max(0, r.Intn(6)-3), " ") }

// someCase is a name with letters of either case.
func someCase(r *rand.Rand, s string) string {
	b := []byte(s)
	for n, c := range b {
		if r.Intn(2) == 0 {
			b[n] = strings.ToUpper(string(rune(c)))[0]
		} else {
			b[n] = strings.ToLower(string(rune(c)))[0]
		}
	}
	return string(b)
}

// loose is a text that is read as these headers and this body: with other blanks, and the length at any place, or at none.
func loose(r *rand.Rand, first string, headers []api.Field, body string) string {
	var all []string
	for _, h := range headers {
		line := h.Name + ":" + blanks(r) + h.Value + blanks(r)
		if len(line) > 1000 {
			line = h.Name + ": " + h.Value
		}
		all = append(all, line)
	}
	if body != "" || r.Intn(2) == 0 {
		at := r.Intn(len(all) + 1)
		line := someCase(r, "Content-Length") + ":" + blanks(r) + strconv.Itoa(len(body)) + blanks(r)
		all = append(all[:at:at], append([]string{line}, all[at:]...)...)
	}
	s := first + "\r\n"
	for _, line := range all {
		s += line + "\r\n"
	}
	return s + "\r\n" + body
}

// wrongLines are such as stand in no message, or only once in it.
var wrongLines = []string{
	"Content-Length: 3", "content-length:0", "Content-Length: 00", "Content-Length: -1", "Content-Length: 4001", "CONTENT-LENGTH: 99999999999999999999",
	"Transfer-Encoding: chunked", "transfer-encoding:", "Host : x", "Host", ": x", " x: y", "a\tb: c", "a: b\tc", "a: \x7f", "a: b\r", "", "\r",
	"x: " + strings.Repeat("y", 997), "x: " + strings.Repeat("y", 998), "x:" + strings.Repeat("y", 998), "GET / HTTP/1.1", "HTTP/1.1 200 OK",
}

// spoil changes a text somewhere, so that it is perhaps no right one any more.
func spoil(r *rand.Rand, s string) string {
	at := r.Intn(len(s) + 1)
	switch r.Intn(6) {
	case 0: // a byte more
		return s[:at] + from(r, "\r\n: \x00\x7f\xffaA0/", 1) + s[at:]
	case 1: // another byte
		if at < len(s) {
			return s[:at] + from(r, between(0, 255), 1) + s[at+1:]
		}
	case 2: // some bytes less
		end := min(len(s), at+1+r.Intn(3))
		return s[:at] + s[end:]
	case 3: // a line more, behind another one
		if feed := strings.IndexByte(s[at:], '\n'); feed >= 0 {
			at += feed + 1
			return s[:at] + wrongLines[r.Intn(len(wrongLines))] + "\r\n" + s[at:]
		}
	case 4: // a line feed alone
		return strings.Replace(s, "\r\n", "\n", 1+r.Intn(2))
	case 5: // many headers
		if feed := strings.IndexByte(s, '\n'); feed >= 0 {
			return s[:feed+1] + many(30+r.Intn(5), "h: v\r\n") + s[feed+1:]
		}
	}
	return s
}
