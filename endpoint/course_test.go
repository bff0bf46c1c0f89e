package endpoint_test

import (
	"fmt"
	"math/rand"
	"slices"
	"strings"
	"testing"

	"latchkey/access"
	"latchkey/api"
	"latchkey/client"
	"latchkey/code"
	"latchkey/endpoint"
	"latchkey/grant"
	"latchkey/table"
)

// A given text is one that was told, with what is known of it from outside.
type given struct {
	text, client string
	family       int
	verifier     int // of a code
}

// course is a row of requests at random, with all that was told.
type course struct {
	*both
	r       *rand.Rand
	now     int
	secrets int
	refresh []given
	signed  []given
	codes   []given
	next    map[string]string // what was given for a refresh token
	ended   map[int]bool      // the families that have ended
	lines   []*lineOf
	counts  map[string]int
}

// lineOf is a line, and what was printed for it and is not fed yet.
type lineOf struct {
	l     *endpoint.Line
	left  string
	asked []waiting
}

// waiting is a request of which so many bytes are not fed yet.
type waiting struct {
	m    api.Message
	left int
}

func newCourse(t *testing.T, seed int) *course {
	t.Helper()
	c := config()
	c.Retain, c.Rate, c.Burst = 40, 0.7, 6
	d := home(t)
	x := opened(t, d)
	wantErrno(t, "PutClient", x.PutClient(publicClient("tv")), api.OK) // a longer grace for web
	w, errno := x.Client("web")
	wantErrno(t, "Client", errno, api.OK)
	w.Grace, w.Idle, w.Absolute, w.Scope = 25, 90, 400, names("read")
	wantErrno(t, "PutClient", x.PutClient(w), api.OK)
	wantErrno(t, "Commit", x.Commit(), api.OK)
	return &course{both: stands(t, d, c), r: rand.New(rand.NewSource(int64(seed))), now: 20, next: map[string]string{}, ended: map[int]bool{}, counts: map[string]int{}}
}

// secret is most often a new one.
func (c *course) secret() string {
	if c.r.Intn(30) == 0 {
		return drawn(c.r, "", "x", many(25, "s"))
	}
	c.secrets++
	return secret(1000 + c.secrets)
}

// reading is most often a little later than the time.
func (c *course) reading() int {
	switch c.r.Intn(60) {
	case 0:
		return drawn(c.r, least, -1, 0, c.now-5)
	case 1:
		c.now += c.r.Intn(60)
	default:
		c.now += drawn(c.r, 0, 0, 0, 1, 1, 2)
	}
	return c.now
}

// late is most often one of the last of a list.
func late(r *rand.Rand, l []given) given {
	if len(l) == 0 {
		return given{text: "x", client: "app"}
	}
	if r.Intn(6) == 0 {
		return drawn(r, l...)
	}
	return l[max(0, len(l)-1-r.Intn(6))]
}

// signs is the request, asked by a client, most often the right one, in one of the ways.
func (c *course) signs(name string, path string, fields ...string) api.Message {
	if c.r.Intn(15) == 0 {
		name = drawn(c.r, "app", "web", "tv", "off", "none", "")
	}
	password := passwords[name]
	if c.r.Intn(40) == 0 {
		password = drawn(c.r, "", word(1), word(7))
	}
	if c.r.Intn(3) > 0 {
		return with(post(path, fields...), "Authorization", basic(name, password))
	}
	fields = append(fields, "client_id", name)
	if password != "" {
		fields = append(fields, "client_secret", password)
	}
	return post(path, fields...)
}

// request is one that is drawn for what there is.
func (c *course) request() api.Message {
	var extra []string
	switch c.r.Intn(8) {
	case 0:
		extra = []string{"scope", drawn(c.r, "", "read", "write", "read write", "admin", "A", "a b c d e f g h i")}
	case 1:
		extra = []string{drawn(c.r, "x", "state", "token_type_hint"), "y"}
	}
	k, s, o := late(c.r, c.refresh), late(c.r, c.signed), late(c.r, c.codes)
	switch n := c.r.Intn(40); {
	case n < 16:
		return c.signs(k.client, "/token", append(extra, "grant_type", "refresh_token", "refresh_token", k.text)...)
	case n < 22:
		return c.signs(o.client, "/token", append(extra, "grant_type", "authorization_code", "code", o.text, "code_verifier", verifier(o.verifier+c.r.Intn(20)/19))...)
	case n < 24:
		return c.signs(k.client, "/revoke", append(extra, "token", k.text)...)
	case n < 29:
		return c.signs("app", "/introspect", append(extra, "token", drawn(c.r, k.text, s.text, s.text, o.text, k.text+"x"))...)
	case n < 37:
		return c.signs(k.client, "/token", append(extra, "grant_type", "refresh_token", "refresh_token", late(c.r, c.refresh).text)...)
	}
	return c.odd(k.text)
}

// odd is a request with which something is wrong.
func (c *course) odd(text string) api.Message {
	m := c.signs("app", drawn(c.r, allPaths...), "token", text)
	switch c.r.Intn(8) {
	case 0:
		m.Path = "/x"
	case 1:
		m.Method = "GET"
	case 2:
		m.Headers = m.Headers[1:]
	case 3:
		m.Body += "&token=x"
	case 4:
		m.Body += "&"
	case 5:
		m = with(m, "Authorization", basic("app", word(1)))
	case 6:
		m.Body = strings.Replace(m.Body, "token", "tokens", 1)
	default:
		m.Body += "&grant_type=" + drawn(c.r, "x", "refresh_token", "authorization_code")
	}
	return m
}

// other is something that comes from elsewhere than from requests.
func (c *course) other() {
	c.t.Helper()
	now, minted, n := c.reading(), secret(5000+c.secrets), c.r.Intn(100)
	c.secrets++
	subject, name := drawn(c.r, "ann", "bob", "eve"), drawn(c.r, "app", "app", "web", "tv")
	calls := []func(x *table.Table) (string, api.Errno){
		func(x *table.Table) (string, api.Errno) {
			i, errno := grant.Issue(x, name, subject, nil, now, minted)
			return i.Token, errno
		},
		func(x *table.Table) (string, api.Errno) {
			return code.Approve(x, name, subject, nil, challengeOf(verifier(n)), 30, now, minted)
		},
		func(x *table.Table) (string, api.Errno) {
			_, errno := access.NewKey(x, minted, 15, now)
			return "", errno
		},
		func(x *table.Table) (string, api.Errno) {
			_, errno := grant.RevokeAll(x, subject, now)
			return "", errno
		},
		func(x *table.Table) (string, api.Errno) {
			return "", client.Switch(x, drawn(rand.New(rand.NewSource(int64(n))), "app", "tv"), n%7 == 0, now)
		},
	}
	which := drawn(c.r, 0, 0, 0, 0, 0, 0, 1, 1, 1, 1, 1, 2, 3, 4, 4)
	text, errno := calls[which](c.x)
	other, otherErr := calls[which](c.x2)
	if text != other || errno != otherErr {
		c.t.Fatalf("the test is wrong: %q, %d; %q, %d", text, errno, other, otherErr)
	}
	c.alike("something else")
	switch {
	case errno != api.OK:
	case which == 0:
		c.refresh = append(c.refresh, given{text: text, client: name, family: c.familyOf(text)})
	case which == 1:
		c.codes = append(c.codes, given{text: text, client: name, verifier: n})
	}
}

// familyOf is the family of a refresh token, as the table has it.
func (c *course) familyOf(text string) int {
	c.t.Helper()
	k, errno := c.x.Token(idOf(text))
	wantErrno(c.t, "Token", errno, api.OK)
	return k.Family
}

// heard holds an answer against the laws, and keeps what it tells.
func (c *course) heard(m api.Message, a api.Answer) {
	c.t.Helper()
	form, _ := formOf(m.Body)
	c.counts[fmt.Sprint(a.Status)]++
	if m.Path == "/introspect" && strings.HasPrefix(a.Body, `{"active":true`) {
		c.counts["active"]++
		if at := slices.IndexFunc(c.refresh, func(g given) bool { return g.text == form["token"] }); at >= 0 && c.ended[c.refresh[at].family] {
			c.t.Fatalf("%s: it has ended, and is told active", whatOf(m))
		}
	}
	if m.Path != "/token" || a.Status != 200 {
		return
	}
	next := memberOf(a.Body, "refresh_token")
	family := c.familyOf(next)
	if c.ended[family] {
		c.t.Fatalf("%s: its family %d has ended, and it gives %v", whatOf(m), family, a)
	}
	name, _, _ := basicOf(strings.Join(headersOf(m, "authorization"), ""))
	name += form["client_id"]
	shown := form["refresh_token"]
	if form["grant_type"] == "authorization_code" {
		shown = form["code"]
	}
	if was, there := c.next[shown]; there && was != next {
		c.t.Fatalf("%s: %q, and ahead of that %q", whatOf(m), next, was)
	}
	if _, there := c.next[shown]; there {
		c.counts["again"]++
	} else {
		c.refresh = append(c.refresh, given{text: next, client: name, family: family})
	}
	c.counts[form["grant_type"]]++
	c.next[shown] = next
	c.signed = append(c.signed, given{text: memberOf(a.Body, "access_token"), client: name, family: family})
}

// ends notes which families have ended: none of them goes back.
func (c *course) ends() {
	c.t.Helper()
	all := c.r.Intn(50) == 0
	asked := map[int]bool{}
	for _, g := range c.refresh {
		if asked[g.family] || c.ended[g.family] && !all {
			continue
		}
		asked[g.family] = true
		f, errno := c.x.Family(g.family)
		if errno != api.OK && errno != api.ErrTableNone {
			c.t.Fatalf("Family: %d", errno)
		}
		over := errno == api.ErrTableNone || f.State != api.Active || c.x.Now() >= min(f.Created+f.Absolute, f.Used+f.Idle)
		if c.ended[g.family] && !over {
			c.t.Fatalf("the family %d is alive again", g.family)
		}
		if over {
			c.ended[g.family] = true
		}
	}
}

// asks is one request, by a call.
func (c *course) asks() {
	c.t.Helper()
	m, now := c.request(), c.reading()
	c.x.See(now)
	c.x2.See(now)
	c.ends()
	c.heard(m, c.serve(m, now, c.secret()))
	c.ends()
}

// feeds is a piece of what comes on one of the lines, with more requests behind it.
func (c *course) feeds() {
	c.t.Helper()
	if len(c.lines) < 3 {
		c.lines = append(c.lines, &lineOf{l: c.e.Connect()})
	}
	l := drawn(c.r, c.lines...)
	for range c.r.Intn(3) {
		m := c.request()
		s := bytesOf(c.t, m)
		l.left += s
		l.asked = append(l.asked, waiting{m, len(s)})
	}
	piece := min(len(l.left), drawn(c.r, 0, 1, c.r.Intn(300), c.r.Intn(2000), 5000))
	now := c.reading()
	secrets := []string{c.secret(), c.secret(), c.secret(), c.secret()}[:c.r.Intn(5)]
	if piece > 0 {
		c.x.See(now) // so the laws are asked for the time of the answer
		c.x2.See(now)
	}
	c.ends()
	whole := l.takes(piece)
	var want string
	var answers []api.Answer
	for n, m := range whole {
		minted := ""
		if n < len(secrets) {
			minted = secrets[n]
		}
		a := c.k.serve(m, now, minted)
		answers = append(answers, a)
		want += lined(a)
	}
	if out := l.l.Feed(l.left[:piece], now, secrets); out != want || l.l.Over() {
		c.t.Fatalf("Feed(%.300q): %q, want %q", l.left[:piece], out, want)
	}
	l.left = l.left[piece:]
	c.alike("Feed")
	for n, m := range whole {
		c.heard(m, answers[n])
	}
	c.ends()
}

// takes are the requests that are whole by so many bytes more.
func (l *lineOf) takes(bytes int) []api.Message {
	var whole []api.Message
	for bytes > 0 {
		n := min(bytes, l.asked[0].left)
		l.asked[0].left -= n
		bytes -= n
		if l.asked[0].left == 0 {
			whole = append(whole, l.asked[0].m)
			l.asked = l.asked[1:]
		}
	}
	return whole
}
