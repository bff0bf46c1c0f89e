package wire_test

import (
	"math"
	"math/rand"
	"slices"
	"strings"
	"testing"

	"latchkey/api"
	"latchkey/wire"
)

// checkMessage holds PrintMessage against W1, and says whether the message may be.
func checkMessage(t *testing.T, m api.Message) bool {
	t.Helper()
	want, wantErrno := wantPrinted(m)
	s, errno := wire.PrintMessage(m)
	if s != want || errno != wantErrno {
		t.Errorf("PrintMessage(%q) = %q, %d, want %q, %d", m, s, errno, want, wantErrno)
	}
	return errno == api.OK
}

func checkAnswer(t *testing.T, a api.Answer) bool {
	t.Helper()
	want, wantErrno := wantPrintedAnswer(a)
	s, errno := wire.PrintAnswer(a)
	if s != want || errno != wantErrno {
		t.Errorf("PrintAnswer(%#v) = %q, %d, want %q, %d", a, s, errno, want, wantErrno)
	}
	return errno == api.OK
}

// wantMayBe says whether both calls must take these headers and this body.
func wantMayBe(t *testing.T, headers []api.Field, body string, may bool) {
	t.Helper()
	if got := checkMessage(t, api.Message{Method: "GET", Path: "/", Headers: headers, Body: body}); got != may {
		t.Errorf("PrintMessage of %q, %.40q: taken %v", headers, body, got)
	}
	if got := checkAnswer(t, api.Answer{Status: 200, Headers: headers, Body: body}); got != may {
		t.Errorf("PrintAnswer of %q, %.40q: taken %v", headers, body, got)
	}
}

func wantHeader(t *testing.T, name, value string, may bool) {
	t.Helper()
	wantMayBe(t, []api.Field{{Name: name, Value: value}}, "", may)
	wantMayBe(t, []api.Field{{Name: "a", Value: "b"}, {Name: name, Value: value}, {Name: "c", Value: "d"}}, "x", may)
}

func TestPrintOfTheExamples(t *testing.T) {
	s, errno := wire.PrintMessage(api.Message{Method: "POST", Path: "/token", Headers: []api.Field{{Name: "Host", Value: "a.example"}}, Body: "x=1"})
	if s != lines("POST /token HTTP/1.1|Host: a.example|Content-Length: 3||x=1") || errno != api.OK {
		t.Errorf("%q, %d", s, errno)
	}
	s, errno = wire.PrintAnswer(api.Answer{Status: 200, Headers: []api.Field{}, Body: "{}"})
	if s != lines("HTTP/1.1 200 OK|Content-Length: 2||{}") || errno != api.OK {
		t.Errorf("%q, %d", s, errno)
	}
	s, errno = wire.PrintAnswer(api.Answer{Status: 200, Headers: []api.Field{{Name: "Content-Length", Value: "2"}}})
	if s != "" || errno != api.ErrWireField {
		t.Errorf("%q, %d", s, errno)
	}
}

func TestPrintWithoutABody(t *testing.T) {
	s, errno := wire.PrintMessage(api.Message{Method: "GET", Path: "/a", Headers: []api.Field{{Name: "B", Value: ""}, {Name: "a", Value: "c d"}}})
	if s != lines("GET /a HTTP/1.1|B: |a: c d|Content-Length: 0||") || errno != api.OK {
		t.Errorf("%q, %d", s, errno)
	}
	s, errno = wire.PrintAnswer(api.Answer{Status: 404, Headers: []api.Field{{Name: "B", Value: ""}, {Name: "a", Value: "c d"}}})
	if s != lines("HTTP/1.1 404 Not Found|B: |a: c d|Content-Length: 0||") || errno != api.OK {
		t.Errorf("%q, %d", s, errno)
	}
}

func TestPrintOfMethods(t *testing.T) {
	for n, may := range map[int]bool{0: false, 1: true, 15: true, 16: true, 17: false, 1000: false} {
		if got := checkMessage(t, api.Message{Method: many(n, "M"), Path: "/"}); got != may {
			t.Errorf("a method of %d letters: taken %v", n, got)
		}
	}
	for b := range 256 {
		sign := string([]byte{byte(b)})
		for _, method := range []string{sign, "GE" + sign, sign + "ET", "G" + sign + "T"} {
			if got := checkMessage(t, api.Message{Method: method, Path: "/"}); got != (b >= 'A' && b <= 'Z') {
				t.Errorf("method %q: taken %v", method, got)
			}
		}
	}
}

func TestPrintOfPaths(t *testing.T) {
	for n, may := range map[int]bool{1: true, 2: true, 199: true, 200: true, 201: false, 1000: false} {
		if got := checkMessage(t, api.Message{Method: "GET", Path: "/" + many(n-1, "p")}); got != may {
			t.Errorf("a path of %d bytes: taken %v", n, got)
		}
	}
	for _, path := range []string{"", "a", "a/", " /", "*", "http://a/"} {
		if checkMessage(t, api.Message{Method: "GET", Path: path}) {
			t.Errorf("path %q is taken", path)
		}
	}
	for b := range 256 {
		sign := string([]byte{byte(b)})
		for _, path := range []string{"/" + sign, "/a" + sign + "b"} {
			if got := checkMessage(t, api.Message{Method: "GET", Path: path}); got != (b >= 33 && b <= 126) {
				t.Errorf("path %q: taken %v", path, got)
			}
		}
	}
}

func TestPrintOfStatuses(t *testing.T) {
	for n, may := range map[int]bool{
		99: false, 100: true, 599: true, 600: false, 0: false, -1: false, -200: false, 2000: false, math.MaxInt: false, math.MinInt: false,
	} {
		if got := checkAnswer(t, api.Answer{Status: n}); got != may {
			t.Errorf("status %d: taken %v", n, got)
		}
	}
	for status := range 700 {
		checkAnswer(t, api.Answer{Status: status})
	}
	for status, reason := range reasons {
		s, _ := wire.PrintAnswer(api.Answer{Status: status})
		if first, _, _ := strings.Cut(s, "\r\n"); !strings.HasSuffix(first, " "+reason) {
			t.Errorf("status %d: %q", status, first)
		}
	}
	if s, _ := wire.PrintAnswer(api.Answer{Status: 204}); !strings.HasPrefix(s, "HTTP/1.1 204 Status\r\n") {
		t.Errorf("status 204: %q", s)
	}
}

func TestPrintOfNames(t *testing.T) {
	for n, may := range map[int]bool{0: false, 1: true, 39: true, 40: true, 41: false, 990: false} {
		wantHeader(t, many(n, "n"), "v", may)
	}
	for b := range 256 {
		sign := string([]byte{byte(b)})
		may := strings.Contains(nameBytes, sign)
		for _, name := range []string{sign, "a" + sign, sign + "a", "a" + sign + "b"} {
			wantHeader(t, name, "v", may)
		}
	}
}

func TestPrintOfValues(t *testing.T) {
	for value, may := range map[string]bool{
		"": true, "v": true, "v w": true, "v  w": true, ":": true, " ": false, "  ": false, " v": false, "v ": false, " v ": false, "\tv": false, "v\r\nw": false,
	} {
		wantHeader(t, "n", value, may)
	}
	for b := range 256 {
		sign := string([]byte{byte(b)})
		wantHeader(t, "n", "v"+sign+"w", b >= 32 && b <= 126)
		wantHeader(t, "n", sign+"w", b >= 33 && b <= 126)
		wantHeader(t, "n", "v"+sign, b >= 33 && b <= 126)
		wantHeader(t, "n", sign, b >= 33 && b <= 126)
	}
}

func TestPrintOfLongHeaders(t *testing.T) {
	for _, name := range []string{"n", "name", many(40, "n")} {
		wantHeader(t, name, many(998-len(name), "v"), true)
		wantHeader(t, name, many(999-len(name), "v"), false)
		wantHeader(t, name, many(5000, "v"), false)
	}
}

func TestPrintOfNamesThatSayHowLongABodyIs(t *testing.T) {
	r := rand.New(rand.NewSource(51))
	for _, name := range []string{"Content-Length", "Transfer-Encoding"} {
		for _, same := range []string{name, strings.ToLower(name), strings.ToUpper(name), someCase(r, name), someCase(r, name)} {
			wantHeader(t, same, "0", false)
			wantHeader(t, same, "", false)
		}
		wantHeader(t, name+"s", "0", true)
		wantHeader(t, name[1:], "0", true)
		wantHeader(t, strings.Replace(name, "-", "_", 1), "0", true)
	}
	// The signs that are 32 apart from others, as letters are, are no letters.
	wantHeader(t, "Content\rLength", "0", false)
	wantHeader(t, "Content-Length\x00", "0", false)
}

func TestPrintOfManyHeaders(t *testing.T) {
	for n, may := range map[int]bool{0: true, 1: true, 31: true, 32: true, 33: false, 1000: false} {
		wantMayBe(t, slices.Repeat([]api.Field{{Name: "a", Value: "b"}}, n), "", may)
		wantMayBe(t, slices.Repeat([]api.Field{{Name: "a", Value: many(997, "b")}}, n), many(4000, "c"), may)
	}
}

func TestPrintOfBodies(t *testing.T) {
	for n, may := range map[int]bool{0: true, 1: true, 9: true, 10: true, 3999: true, 4000: true, 4001: false, 100000: false} {
		wantMayBe(t, nil, many(n, "b"), may)
		wantMayBe(t, nil, many(n, "\xff"), may)
	}
	wantMayBe(t, nil, between(0, 255), true)
	wantMayBe(t, nil, "\r\n\r\n", true)
}

func TestPrintOfSome(t *testing.T) {
	r := rand.New(rand.NewSource(52))
	for range 3000 {
		m, a := someMessage(r), someAnswer(r)
		if !checkMessage(t, m) || !checkAnswer(t, a) {
			t.Fatalf("not taken: %q or %#v", m, a)
		}
		m.Method, m.Path = spoil(r, m.Method), spoil(r, m.Path)
		checkMessage(t, m)
		for n := range a.Headers {
			if r.Intn(4) == 0 {
				a.Headers[n] = api.Field{Name: spoil(r, a.Headers[n].Name), Value: spoil(r, a.Headers[n].Value)}
			}
		}
		checkAnswer(t, a)
	}
}

func TestPrintLeavesWhatIsHandedIn(t *testing.T) {
	r := rand.New(rand.NewSource(53))
	for range 500 {
		headers := append(someHeaders(r), api.Field{Name: "a", Value: "b"}, api.Field{Name: "spare", Value: "room"})
		given := headers[:len(headers)-1]
		kept := slices.Clone(headers)
		wire.PrintMessage(api.Message{Method: "GET", Path: "/", Headers: given, Body: "x"})
		wire.PrintAnswer(api.Answer{Status: 200, Headers: given, Body: "x"})
		wire.All(given, "A")
		if !slices.Equal(headers, kept) {
			t.Fatalf("headers %q became %q", kept, headers)
		}
	}
	a := api.Answer{Status: 200, Body: many(100, "b")}
	s, _ := wire.PrintAnswer(a)
	if share(textMemory(s), textMemory(a.Body)) {
		t.Error("what is printed shares memory with the body")
	}
}
