package endpoint_test

import (
	"encoding/base64"
	"fmt"
	"math"
	"math/rand"
	"net/url"
	"slices"
	"strings"
	"testing"

	"latchkey/access"
	"latchkey/api"
	"latchkey/check"
	"latchkey/client"
	"latchkey/code"
	"latchkey/disk"
	"latchkey/endpoint"
	"latchkey/grant"
	"latchkey/limit"
	"latchkey/pager"
	"latchkey/record"
	"latchkey/table"
	"latchkey/tree"
)

const (
	least      = math.MinInt
	most       = math.MaxInt
	lastTime   = 1 << 40
	lastID     = 1 << 62
	lastNumber = 1<<53 - 1 // that JSON can say
	worn       = 1 << 62   // the last generation of a store
	formType   = "application/x-www-form-urlencoded"
)

// many is a text so many times.
func many(n int, s string) string { return strings.Repeat(s, n) }

// secret is the n-th of some.
func secret(n int) string { return fmt.Sprintf("%024d", n) }

// word is the n-th password of some.
func word(n int) string { return fmt.Sprintf("word%012d", n) }

// verifier is the n-th of some.
func verifier(n int) string { return fmt.Sprintf("%043d", n) }

// names is a scope.
func names(l ...string) []string { return l }

// drawn is one of some.
func drawn[T any](r *rand.Rand, l ...T) T { return l[r.Intn(len(l))] }

func wantErrno(t *testing.T, what string, got, want api.Errno) {
	t.Helper()
	if got != want {
		t.Fatalf("%s: %d, want %d", what, got, want)
	}
}

// loaded is a disk on which these blocks last.
func loaded(t *testing.T, blocks []string) *disk.Disk {
	t.Helper()
	d, errno := disk.Load(blocks)
	wantErrno(t, "Load", errno, api.OK)
	return d
}

// opened is the table that stands on a disk.
func opened(t *testing.T, d *disk.Disk) *table.Table {
	t.Helper()
	x, errno := table.Open(d)
	wantErrno(t, "Open", errno, api.OK)
	return x
}

// kill lets a disk die.
func kill(t *testing.T, d *disk.Disk) {
	t.Helper()
	wantErrno(t, "Arm", d.Arm(1), api.OK)
	wantErrno(t, "Sync", d.Sync(), api.ErrDead)
}

// aged is a disk on which the same stands, at another generation, which must not be an earlier one.
func aged(t *testing.T, d *disk.Disk, generation int) *disk.Disk {
	t.Helper()
	g, errno := pager.Mount(d)
	wantErrno(t, "Mount", errno, api.OK)
	head, errno := pager.PrintHead(generation, g.Root(), g.Size(), g.Note())
	wantErrno(t, "PrintHead", errno, api.OK)
	blocks := d.Blocks()
	blocks[generation%2] = head
	return loaded(t, blocks)
}

// tight is a disk on which the same pairs stand, and just so many pages are free.
func tight(t *testing.T, d *disk.Disk, spare int) *disk.Disk {
	t.Helper()
	from, errno := pager.Mount(d)
	wantErrno(t, "Mount", errno, api.OK)
	pairs, errno := tree.Open(from).Scan("", "", 4096)
	wantErrno(t, "Scan", errno, api.OK)
	lay := func(blocks int) *disk.Disk {
		d, errno := disk.New(blocks)
		wantErrno(t, "New", errno, api.OK)
		wantErrno(t, "Format", pager.Format(d, from.Note()), api.OK)
		to, errno := pager.Mount(d)
		wantErrno(t, "Mount", errno, api.OK)
		x := tree.Open(to)
		for _, p := range pairs {
			wantErrno(t, "Put", x.Put(p.Key, p.Value), api.OK)
		}
		wantErrno(t, "Commit", x.Commit(from.Note()), api.OK)
		return d
	}
	wide, errno := pager.Mount(lay(256))
	wantErrno(t, "Mount", errno, api.OK)
	d = lay(2 + len(wide.Reached()) + spare)
	if free := opened(t, d).Pager().Free(); free != spare {
		t.Fatalf("the test is wrong: %d are free", free)
	}
	return d
}

// config is one by which nobody asks too often.
func config() api.Config { return api.Config{Issuer: "home", Retain: 100, Rate: 1, Burst: 1 << 20} }

// someClient is one whose families are short.
func someClient(name string) api.Client {
	return api.Client{Name: name, Scope: names("read", "write"), Idle: 50, Absolute: 120, Grace: 10, Life: 20}
}

// publicClient is one that has no secret.
func publicClient(name string) api.Client {
	c := someClient(name)
	c.Public = true
	return c
}

// The passwords of those clients that have one.
var passwords = map[string]string{"app": word(1), "web": word(2), "off": word(3)}

// settle registers app, web, tv (which has no secret) and off (which is switched off) at 10.
func settle(t *testing.T, x *table.Table) {
	t.Helper()
	for _, name := range []string{"app", "web", "tv", "off"} {
		c := someClient(name)
		c.Public, c.Off = name == "tv", name == "off"
		wantErrno(t, "Register", client.Register(x, c, passwords[name], 10), api.OK)
	}
}

// home is a disk of 200 blocks on which those clients stand, and a key that signs from 10 on.
func home(t *testing.T) *disk.Disk { return homeOf(t, 200, 1) }

// homeOf is likewise one of so many blocks, whose next ID is that.
func homeOf(t *testing.T, blocks, next int) *disk.Disk {
	t.Helper()
	d, errno := disk.New(blocks)
	wantErrno(t, "New", errno, api.OK)
	note, errno := record.PrintNote(next, 0)
	wantErrno(t, "PrintNote", errno, api.OK)
	wantErrno(t, "Format", pager.Format(d, note), api.OK)
	x := opened(t, d)
	settle(t, x)
	n, errno := access.NewKey(x, secret(900), 30, 10)
	if n != 1 || errno != api.OK {
		t.Fatalf("NewKey: %d, %d", n, errno)
	}
	return d
}

// post is a request by a form.
func post(path string, fields ...string) api.Message {
	m := api.Message{Method: "POST", Path: path, Headers: []api.Field{{Name: "Content-Type", Value: formType}}}
	var pieces []string
	for n := 0; n < len(fields); n += 2 {
		pieces = append(pieces, escaped(fields[n])+"="+escaped(fields[n+1]))
	}
	m.Body = strings.Join(pieces, "&")
	return m
}

// escaped is a text as it may stand in a form.
func escaped(s string) string { return strings.ReplaceAll(url.QueryEscape(s), "~", "%7E") }

// with is the request with one header more.
func with(m api.Message, name, value string) api.Message {
	m.Headers = append(slices.Clone(m.Headers), api.Field{Name: name, Value: value})
	return m
}

// basic is what the header Authorization says of a client and its secret.
func basic(name, secret string) string {
	return "Basic " + base64.StdEncoding.EncodeToString([]byte(escaped(name)+":"+escaped(secret)))
}

// by is the request, asked by a client.
func by(name string, m api.Message) api.Message {
	return with(m, "Authorization", basic(name, passwords[name]))
}

// refreshing is a request for the next tokens.
func refreshing(name, text string, more ...string) api.Message {
	return by(name, post("/token", append([]string{"grant_type", "refresh_token", "refresh_token", text}, more...)...))
}

// redeeming is one for a code.
func redeeming(name, text, verifier string) api.Message {
	return by(name, post("/token", "grant_type", "authorization_code", "code", text, "code_verifier", verifier))
}

func revoking(name, text string) api.Message { return by(name, post("/revoke", "token", text)) }

func asking(name, text string) api.Message { return by(name, post("/introspect", "token", text)) }

// plain is an answer without a body; said is one that has one.
func plain(status int, more ...api.Field) api.Answer {
	return api.Answer{Status: status, Headers: append([]api.Field{{Name: "Cache-Control", Value: "no-store"}}, more...)}
}

func said(status int, body string, more ...api.Field) api.Answer {
	a := plain(status, api.Field{Name: "Content-Type", Value: "application/json"})
	a.Headers, a.Body = append(a.Headers, more...), body
	return a
}

func refusing(status int, word string, more ...api.Field) api.Answer {
	return said(status, `{"error":"`+word+`"}`, more...)
}

var (
	badRequest  = refusing(400, "invalid_request")
	badGrant    = refusing(400, "invalid_grant")
	badScope    = refusing(400, "invalid_scope")
	badType     = refusing(400, "unsupported_grant_type")
	denied      = refusing(400, "access_denied")
	later       = refusing(503, "temporarily_unavailable")
	wrong       = refusing(500, "server_error")
	nobody      = refusing(401, "invalid_client", api.Field{Name: "WWW-Authenticate", Value: `Basic realm="home"`})
	notThere    = plain(404)
	notSo       = plain(405, api.Field{Name: "Allow", Value: "POST"})
	notThat     = plain(415)
	done        = plain(200)
	worthless   = said(200, `{"active":false}`)
	allPaths    = []string{"/token", "/revoke", "/introspect"}
	allReadings = []int{least, least + 1, -1, 0, 9, 10, 11, 100, 110, 150, lastTime - 1, lastTime, lastTime + 1, lastID, most}
)

// hasty is the answer to one who must wait.
func hasty(seconds string) api.Answer {
	return refusing(429, "slow_down", api.Field{Name: "Retry-After", Value: seconds})
}

func sameAnswer(a, b api.Answer) bool {
	return a.Status == b.Status && slices.Equal(a.Headers, b.Headers) && a.Body == b.Body
}

// both is an endpoint over a table, and beside it another table, that is alike, of which the model answers.
type both struct {
	t     *testing.T
	c     api.Config
	d, d2 *disk.Disk
	x, x2 *table.Table
	e     *endpoint.Endpoint
	k     *desk
	acts  int // behind how many of them the blocks were held against one another
}

// stands is that over what stands on a disk, which stays as it is.
func stands(t *testing.T, d *disk.Disk, c api.Config) *both {
	t.Helper()
	b := &both{t: t, c: c, d: loaded(t, d.Blocks()), d2: loaded(t, d.Blocks())}
	b.open()
	return b
}

// open opens both tables anew.
func (b *both) open() {
	b.t.Helper()
	b.x, b.x2 = opened(b.t, b.d), opened(b.t, b.d2)
	b.renew()
}

// renew is another endpoint over the same table.
func (b *both) renew() {
	b.t.Helper()
	b.e, b.k = endpointOf(b.t, b.x, b.c), deskOf(b.t, b.x2, b.c)
}

func endpointOf(t *testing.T, x *table.Table, c api.Config) *endpoint.Endpoint {
	t.Helper()
	e, errno := endpoint.New(x, c)
	wantErrno(t, "New", errno, api.OK)
	return e
}

func deskOf(t *testing.T, x *table.Table, c api.Config) *desk {
	t.Helper()
	l, errno := limit.New(c.Rate, c.Burst)
	wantErrno(t, "limit.New", errno, api.OK)
	return &desk{x: x, c: c, l: l}
}

// do does the same on both tables: what the first one answers.
func (b *both) do(what string, call func(x *table.Table) api.Errno) {
	b.t.Helper()
	wantErrno(b.t, what, call(b.x), api.OK)
	wantErrno(b.t, what, call(b.x2), api.OK)
}

// issue is a family on both, of which the token is told.
func (b *both) issue(name, subject string, scope []string, now, n int) api.Issued {
	b.t.Helper()
	var i api.Issued
	b.do("Issue", func(x *table.Table) (errno api.Errno) {
		i, errno = grant.Issue(x, name, subject, scope, now, secret(n))
		return errno
	})
	return i
}

// approve is a code on both.
func (b *both) approve(name, subject string, life, now, n int) string {
	b.t.Helper()
	var text string
	b.do("Approve", func(x *table.Table) (errno api.Errno) {
		text, errno = code.Approve(x, name, subject, nil, challengeOf(verifier(n)), life, now, secret(n))
		return errno
	})
	return text
}

// alike is that both tables have done the same.
func (b *both) alike(what string) {
	b.t.Helper()
	if b.x.Now() != b.x2.Now() || b.d.Acts() != b.d2.Acts() || b.d.Dead() != b.d2.Dead() || b.x.Pager().Note() != b.x2.Pager().Note() {
		b.t.Fatalf("%s: the time is %d, want %d; %d acts, want %d; the note is %x, want %x", what, b.x.Now(), b.x2.Now(), b.d.Acts(), b.d2.Acts(), b.x.Pager().Note(), b.x2.Pager().Note())
	}
	if b.acts == b.d.Acts() && !b.d.Dead() { // without an act no block is another one
		return
	}
	b.acts = b.d.Acts()
	if !slices.Equal(b.d.Blocks(), b.d2.Blocks()) || !slices.Equal(b.d.Pending(), b.d2.Pending()) {
		b.t.Fatalf("%s: other blocks", what)
	}
}

// serve is what both answer.
func (b *both) serve(m api.Message, now int, secret string) api.Answer {
	b.t.Helper()
	want := b.k.serve(m, now, secret)
	a := b.e.Serve(m, now, secret)
	if !sameAnswer(a, want) {
		b.t.Fatalf("%s at %d: %v; want %v", whatOf(m), now, a, want)
	}
	b.alike(whatOf(m))
	return a
}

// wants is that both answer just that.
func (b *both) wants(want api.Answer, m api.Message, now int, secret string) {
	b.t.Helper()
	if a := b.serve(m, now, secret); !sameAnswer(a, want) {
		b.t.Fatalf("%s at %d: %v; want %v", whatOf(m), now, a, want)
	}
}

// same is that, and that nothing is done.
func (b *both) same(want api.Answer, m api.Message, now int, secret string) {
	b.t.Helper()
	acts := b.d.Acts()
	b.wants(want, m, now, secret)
	if b.d.Acts() != acts {
		b.t.Fatalf("%s at %d: %d acts", whatOf(m), now, b.d.Acts()-acts)
	}
}

// gives is a 200 with tokens: the refresh token and the access token.
func (b *both) gives(m api.Message, now int, secret string) (refresh, signed string) {
	b.t.Helper()
	a := b.serve(m, now, secret)
	if a.Status != 200 {
		b.t.Fatalf("%s at %d: %v", whatOf(m), now, a)
	}
	return memberOf(a.Body, "refresh_token"), memberOf(a.Body, "access_token")
}

// memberOf is a member of an object of texts and numbers.
func memberOf(body, name string) string {
	_, behind, _ := strings.Cut(body, `"`+name+`":`)
	if text, is := strings.CutPrefix(behind, `"`); is {
		ahead, _, _ := strings.Cut(text, `"`)
		return ahead
	}
	return behind[:strings.IndexAny(behind+",", ",}")]
}

func whatOf(m api.Message) string { return fmt.Sprintf("%.300q", fmt.Sprint(m)) }

// look is that a look at the disk finds nothing, that nothing leaks, and that what is opened anew is what stands.
func (b *both) look(what string) {
	b.t.Helper()
	wantRight(b.t, what, b.d)
	if p := b.x.Pager(); len(p.Reached())+p.Free() != p.Size()-2 {
		b.t.Fatalf("%s: %d pages are reached, %d free, of %d blocks", what, len(p.Reached()), p.Free(), p.Size())
	}
}

// wantRight is that a table stands on a disk, which is opened without an act.
func wantRight(t *testing.T, what string, d *disk.Disk) {
	t.Helper()
	findings, errno := check.Image(d.Blocks())
	if len(findings) > 0 || errno != api.OK {
		t.Fatalf("%s: %v, %d", what, findings, errno)
	}
	other := loaded(t, d.Blocks())
	if opened(t, other); other.Acts() > 0 {
		t.Fatalf("%s: %d acts to open it", what, other.Acts())
	}
}

// stateOf is the state of a family.
func (b *both) stateOf(family int) int {
	b.t.Helper()
	f, errno := b.x.Family(family)
	wantErrno(b.t, "Family", errno, api.OK)
	return f.State
}
