package endpoint_test

import (
	"fmt"
	"slices"
	"strings"
	"testing"

	"latchkey/api"
	"latchkey/endpoint"
	"latchkey/wire"
)

// bytesOf is requests as bytes, one behind the other.
func bytesOf(t *testing.T, l ...api.Message) string {
	t.Helper()
	all := ""
	for _, m := range l {
		s, errno := wire.PrintMessage(m)
		wantErrno(t, "PrintMessage", errno, api.OK)
		all += s
	}
	return all
}

// reasons are those of the statuses that are answered.
var reasons = map[int]string{200: "OK", 400: "Bad Request", 401: "Unauthorized", 404: "Not Found", 405: "Method Not Allowed", 415: "Unsupported Media Type", 429: "Too Many Requests", 500: "Internal Server Error", 503: "Service Unavailable"}

// lined is an answer as bytes.
func lined(a api.Answer) string {
	s := fmt.Sprintf("HTTP/1.1 %d %s\r\n", a.Status, reasons[a.Status])
	for _, f := range a.Headers {
		s += f.Name + ": " + f.Value + "\r\n"
	}
	return s + fmt.Sprintf("Content-Length: %d\r\n\r\n%s", len(a.Body), a.Body)
}

// linedAll is what the model answers to requests, by these secrets.
func (b *both) linedAll(now int, secrets []string, l ...api.Message) string {
	all := ""
	for n, m := range l {
		minted := ""
		if n < len(secrets) {
			minted = secrets[n]
		}
		all += lined(b.k.serve(m, now, minted))
	}
	return all
}

// feeds is that a line that is fed says just that.
func feeds(t *testing.T, l *endpoint.Line, s string, now int, secrets []string, want string, over bool) {
	t.Helper()
	if out := l.Feed(s, now, secrets); out != want || l.Over() != over {
		t.Fatalf("Feed(%.300q, %d): %q, %v; want %q, %v", s, now, out, l.Over(), want, over)
	}
}

// someRequests are such as need no secret, and change nothing.
func someRequests() []api.Message {
	return []api.Message{
		asking("app", "x"), post("/"), {Method: "GET", Path: "/token"}, post("/token"), revoking("web", "y"), by("app", post("/token", "grant_type", "x")), {Method: "POST", Path: "/token"}, with(post("/introspect", "token", "x"), "Authorization", "x"),
	}
}

// E7: a new line has taken nothing, and is not over; what is fed without a whole request says nothing.
func TestLineBegins(t *testing.T) {
	b := stands(t, home(t), config())
	l := b.e.Connect()
	if l == nil || l.Over() {
		t.Fatal("it is over")
	}
	for range 3 {
		feeds(t, l, "", 20, nil, "", false)
	}
	s := bytesOf(t, asking("app", "x"))
	for n := range len(s) - 1 {
		feeds(t, l, s[n:n+1], 20, []string{secret(1)}, "", false)
	}
	feeds(t, l, s[len(s)-1:], 20, nil, lined(worthless), false)
	feeds(t, l, "", 20, nil, "", false)
}

// E7: requests cut anywhere are answered when they are whole, and only then.
func TestLineCut(t *testing.T) {
	b := stands(t, home(t), config())
	all := someRequests()
	s := bytesOf(t, all...)
	var ends []int
	for n := range all {
		ends = append(ends, len(bytesOf(t, all[:n+1]...)))
	}
	want := b.linedAll(20, nil, all...)
	for cut := range len(s) + 1 {
		l := b.e.Connect()
		whole, _ := slices.BinarySearch(ends, cut+1)
		ahead := b.linedAll(20, nil, all[:whole]...)
		feeds(t, l, s[:cut], 20, nil, ahead, false)
		feeds(t, l, s[cut:], 20, nil, want[len(ahead):], false)
	}
	for _, size := range []int{1, 2, 3, 7, 50, 100, 1000, len(s)} {
		l := b.e.Connect()
		out := ""
		for part := range slices.Chunk([]byte(s), size) {
			out += l.Feed(string(part), 20, nil)
		}
		if out != want || l.Over() {
			t.Fatalf("by %d: %q, want %q", size, out, want)
		}
	}
}

// wrongBytes are such as are no request, with how many bytes of them it takes to tell.
func wrongBytes() []string {
	return []string{
		"x\r\n", "\r\n", "\n", "GET / HTTP/1.0\r\n", "get / HTTP/1.1\r\n", "POST /token HTTP/1.1\n", "POST token HTTP/1.1\r\n", "POST /token HTTP/1.1\r\nx\r\n", "POST /token HTTP/1.1\r\nA : b\r\n", "POST /token HTTP/1.1\r\nTransfer-Encoding: chunked\r\n",
		"POST /token HTTP/1.1\r\nContent-Length: 01\r\n", "POST /token HTTP/1.1\r\nContent-Length: 4001\r\n", "POST /token HTTP/1.1\r\nContent-Length: 1\r\nContent-Length: 1\r\n", many(1002, "A"), "POST /token HTTP/1.1\r\n" + many(1002, "A"),
		"POST /token HTTP/1.1\r\n" + many(33, "A: b\r\n"), "\x00\n", "HTTP/1.1 200 OK\r\n",
	}
}

// E7: what is no request is answered by one refusal more, and nothing behind it is taken.
func TestLineWrong(t *testing.T) {
	b := stands(t, home(t), config())
	all := someRequests()
	ahead, right := b.linedAll(20, nil, all...), bytesOf(t, all...)
	for _, wrong := range wrongBytes() {
		l := b.e.Connect()
		feeds(t, l, wrong, 20, nil, lined(badRequest), true)
		for _, s := range []string{"", "x", right, wrong} {
			feeds(t, l, s, 20, []string{secret(1)}, "", true)
		}
		feeds(t, b.e.Connect(), wrong+right, 20, nil, lined(badRequest), true)
		feeds(t, b.e.Connect(), right+wrong+right, 20, nil, ahead+lined(badRequest), true)
		l = b.e.Connect()
		feeds(t, l, right, 20, nil, ahead, false)
		feeds(t, l, wrong[:len(wrong)-1], 20, nil, "", false)
		feeds(t, l, wrong[len(wrong)-1:]+right, 20, nil, lined(badRequest), true)
		feeds(t, l, right, 20, nil, "", true)
	}
}

// E7: what is no request is none: it shows no reading to the clock, nor does what is not whole, and what comes behind its end.
func TestLineReadings(t *testing.T) {
	b := stands(t, home(t), config())
	l := b.e.Connect()
	now := func(want int) {
		t.Helper()
		if b.x.Now() != want {
			t.Fatalf("the time is %d, want %d", b.x.Now(), want)
		}
	}
	now(10)
	l.Feed("", 20, nil)
	now(10)
	s := bytesOf(t, post("/"))
	l.Feed(s[:len(s)-1], 30, nil)
	now(10)
	l.Feed(s[len(s)-1:], 40, nil)
	now(40)
	l.Feed(s+s, 35, nil)
	now(40)
	l.Feed(s+"x\r\n", 50, nil)
	now(50)
	l.Feed(s, 60, nil)
	now(50)
	b.e.Connect().Feed("x\r\n", 70, nil)
	now(50)
	b.e.Connect().Feed(s, most, nil)
	now(lastTime)
}

// E7: the first request is answered with the first secret, the second one with the second; where there is none, with the empty text. Each Feed begins anew.
func TestLineSecrets(t *testing.T) {
	for have := range 6 {
		b := stands(t, home(t), config())
		var texts []string
		for n := range 4 {
			texts = append(texts, b.issue("app", fmt.Sprint("s", n), nil, 100, n).Token)
		}
		var secrets []string
		for n := range have {
			secrets = append(secrets, secret(50+n))
		}
		l := []api.Message{refreshing("app", texts[0]), asking("app", texts[1]), refreshing("app", texts[1]), refreshing("app", texts[2])}
		want := b.linedAll(110, secrets, l...)
		feeds(t, b.e.Connect(), bytesOf(t, l...), 110, secrets, want, false)
		b.alike("Feed")
		for n, family := range []int{1, 3, 5} {
			at := []int{0, 2, 3}[n]
			tokens, errno := b.x.Tokens(family)
			if wanted := map[bool]int{true: 2, false: 1}[at < have]; errno != api.OK || len(tokens) != wanted || wanted == 2 && tokens[0].Secret != secrets[at] {
				t.Fatalf("%d secrets: of the family %d: %v", have, family, tokens)
			}
		}
		other := b.e.Connect()
		half := bytesOf(t, refreshing("app", texts[3]))
		feeds(t, other, half[:30], 111, []string{secret(60), secret(61)}, "", false)
		m := refreshing("app", texts[3])
		feeds(t, other, half[30:], 112, []string{secret(62)}, b.linedAll(112, []string{secret(62)}, m), false)
		b.alike("Feed")
	}
}

// E7: lines know nothing of one another but what the endpoint has; by turns, cut anywhere.
func TestLinesByTurns(t *testing.T) {
	b := stands(t, home(t), config())
	first := b.issue("app", "ann", nil, 100, 1).Token
	one, two, three := b.e.Connect(), b.e.Connect(), b.e.Connect()
	s := bytesOf(t, refreshing("app", first))
	feeds(t, one, s[:10], 110, nil, "", false)
	feeds(t, two, s[:50], 110, nil, "", false)
	feeds(t, three, "x\r\n", 110, nil, lined(badRequest), true)
	feeds(t, two, s[50:]+s[:7], 111, []string{secret(2)}, b.linedAll(111, []string{secret(2)}, refreshing("app", first)), false)
	feeds(t, one, s[10:], 112, []string{secret(3)}, b.linedAll(112, []string{secret(3)}, refreshing("app", first)), false) // the very same next one
	feeds(t, three, s, 112, []string{secret(4)}, "", true)
	feeds(t, two, s[7:], 121, []string{secret(5)}, b.linedAll(121, []string{secret(5)}, refreshing("app", first)), false)
	b.alike("Feed")
	if b.stateOf(1) != api.Reused {
		t.Fatal("it has not ended")
	}
}

// E7, E2: who asks too often is told so on a line, too, whichever line it is.
func TestLinePace(t *testing.T) {
	b := paced(t, 0.5, 2)
	m := asking("app", "x")
	s := bytesOf(t, m, m, m)
	feeds(t, b.e.Connect(), s, 100, nil, lined(worthless)+lined(worthless)+lined(hasty("2")), false)
	feeds(t, b.e.Connect(), s, 103, nil, lined(worthless)+lined(hasty("1"))+lined(hasty("1")), false)
}

// E7: headers as they come on lines: whatever the case of their names, with or without blanks.
func TestLineHeaders(t *testing.T) {
	b := stands(t, home(t), config())
	for _, c := range []struct {
		headers string
		want    api.Answer
	}{
		{"Content-Type: " + formType + "\r\nAuthorization: " + basic("app", word(1)) + "\r\n", worthless},
		{"content-type:" + formType + "\r\nauthorization:   " + basic("app", word(1)) + "  \r\n", worthless},
		{"CONTENT-TYPE:   " + formType + " \r\nHost: a.example\r\nAUTHORIZATION: " + basic("app", word(1)) + "\r\nAccept:\r\n", worthless},
		{"Authorization: " + basic("app", word(1)) + "\r\n", notThat},
		{"Content-Type: " + formType + "\r\ncontent-type: " + formType + "\r\n", notThat},
		{"Content-Type: " + formType + "\r\n", nobody},
		{"Content-Type: " + formType + "\r\nAuthorization:\r\n", nobody},
		{"Content-Type: " + formType + "\r\nAuthorization:\r\nauthorization: " + basic("app", word(1)) + "\r\n", badRequest},
	} {
		feeds(t, b.e.Connect(), "POST /introspect HTTP/1.1\r\n"+c.headers+"Content-Length: 7\r\n\r\ntoken=x", 20, nil, lined(c.want), false)
	}
	feeds(t, b.e.Connect(), "POST /introspect HTTP/1.1\r\nContent-Type: "+formType+"\r\nAuthorization: "+basic("app", word(1))+"\r\n\r\n", 20, nil, lined(badRequest), false)
}

// E7: as many requests as you like at once.
func TestLineMany(t *testing.T) {
	b := stands(t, home(t), config())
	s := bytesOf(t, asking("app", "x"))
	feeds(t, b.e.Connect(), many(3000, s), 20, nil, many(3000, lined(worthless)), false)
}

// E7: a line behind a death goes on; all is refused that asks the disk.
func TestLineDead(t *testing.T) {
	b := stands(t, home(t), config())
	first := b.issue("app", "ann", nil, 100, 1).Token
	l := b.e.Connect()
	m := refreshing("app", first)
	s := bytesOf(t, m)
	wantErrno(t, "Arm", b.d.Arm(3), api.OK)
	feeds(t, l, s+s, 110, []string{secret(2), secret(3)}, lined(later)+lined(later), false)
	wantErrno(t, "Crash", b.d.Crash(nil), api.OK)
	feeds(t, l, s, 110, []string{secret(2)}, lined(later), false)
	other := endpointOf(t, opened(t, b.d), config()).Connect()
	if out := other.Feed(s, 110, []string{secret(2)}); !strings.HasPrefix(out, "HTTP/1.1 200 OK\r\n") {
		t.Fatalf("%q", out)
	}
	feeds(t, l, s, 110, []string{secret(2)}, lined(later), false) // this one's table is in doubt
}
