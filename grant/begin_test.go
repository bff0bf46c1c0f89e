package grant_test

import (
	"fmt"
	"slices"
	"testing"

	"latchkey/api"
	"latchkey/grant"
)

// birth is what Begin is asked, and Issue.
type birth struct {
	client, subject string
	scope           []string
	code            int
	secret          string
}

func someBirth() birth { return birth{"app", "ann", names("read"), 0, secret(1)} }

func (a birth) what() string { return fmt.Sprintf("Begin%q", fmt.Sprint(a)) }

// begin asks a table and a book for the same: nothing is committed, and the table's changes are what the book has then. A refusal leaves them as they were.
func (b *both) begin(a birth, after *book) (api.Issued, api.Errno) {
	b.t.Helper()
	before := b.state()
	want, errno := after.Begin(a.client, a.subject, a.scope, a.code, a.secret)
	got, e := grant.Begin(b.x, a.client, a.subject, a.scope, a.code, a.secret)
	if e != errno || !same(got, want) {
		b.t.Fatalf("%s: %#v, %d; want %#v, %d", a.what(), got, e, want, errno)
	}
	if after := b.state(); after != before {
		b.t.Fatalf("%s: %d acts", a.what(), after.acts-before.acts)
	}
	wantHas(b.t, a.what(), b.x, after)
	return got, e
}

// wantBegin is that a table answers so, and that all is forgotten by Abort.
func (b *both) wantBegin(a birth, errno api.Errno) api.Issued {
	b.t.Helper()
	got, e := b.begin(a, b.b.copied())
	wantErrno(b.t, a.what(), e, errno)
	b.x.Abort()
	b.look(a.what() + ", forgotten")
	return got
}

// G2: what is told, and what is in the changes.
func TestBegin(t *testing.T) {
	b := newBoth(t)
	b.x.See(100)
	b.b.see(100)
	want := api.Issued{Token: textOf("lkr_", 2, secret(1)), Family: 1, Gen: 1, Scope: names("read"), Subject: "ann", Life: 20}
	if got := b.wantBegin(someBirth(), api.OK); !same(got, want) {
		t.Fatalf("Begin: %#v", got)
	}
	_, errno := b.begin(birth{"app", "ann", names("read"), 9, secret(1)}, b.b.copied())
	wantErrno(t, "Begin", errno, api.OK)
	f, errno := b.x.Family(1)
	if errno != api.OK || !same(f, api.Family{
		ID: 1, Client: "app", Subject: "ann", Scope: names("read"), Created: 100, Used: 100, Idle: 50, Absolute: 120, Grace: 10, Gen: 1, Token: 2, State: api.Active, Code: 9,
	}) {
		t.Fatalf("the family: %#v, %d", f, errno)
	}
	k, errno := b.x.Token(2)
	if errno != api.OK || k != (api.Token{ID: 2, Family: 1, Gen: 1, Hash: digestOf(want.Token), Minted: 100}) {
		t.Fatalf("the token: %#v, %d", k, errno)
	}
	l, errno := b.x.Events()
	if errno != api.OK || !slices.Equal(l, []api.Event{{Number: 1, Time: 100, Kind: api.EventIssue, Family: 1, Who: "app"}}) {
		t.Fatalf("the events: %v, %d", l, errno)
	}
	if id, errno := b.x.ID(); id != 3 || errno != api.OK {
		t.Fatalf("the next ID is %d, %d", id, errno)
	}
}

// G2: it goes on from what was begun, and several stand side by side; all is committed together, or forgotten.
func TestBeginGoesOn(t *testing.T) {
	for _, commit := range []bool{false, true} {
		b := newBoth(t)
		b.want(issue("web", "bob", nil, 90, secret(8)), api.OK)
		b.x.See(100)
		b.b.see(100)
		after := b.b.copied()
		for n := range 6 {
			a := birth{"web", []string{"ann", "bob", "eve"}[n%3], names("admin"), 0, secret(n)}
			_, errno := b.begin(a, after)
			wantErrno(t, a.what(), errno, api.OK)
			_, errno = b.begin(birth{"gone", "ann", nil, 0, secret(1)}, after)
			wantErrno(t, "no client", errno, api.ErrClientNone)
		}
		if commit {
			wantErrno(t, "Commit", b.x.Commit(), api.OK)
			after.commit()
			b.b = after
		} else {
			b.x.Abort()
		}
		b.look("behind all")
		b.reopen()
	}
}

// G2: what was put into the changes counts: clients, families, the trail.
func TestBeginSeesChanges(t *testing.T) {
	b := newBoth(t)
	b.want(issue("app", "ann", nil, 100, secret(1)), api.OK)
	after := b.b.copied()
	c := someClient("fresh")
	c.Scope, c.Idle, c.Absolute, c.Grace, c.Life = names("more"), 7, 8, 0, 9
	wantErrno(t, "PutClient", b.x.PutClient(c), api.OK)
	after.clients["fresh"] = c
	if got, errno := b.begin(birth{"fresh", "ann", nil, 0, secret(2)}, after); errno != api.OK || got.Life != 9 || !slices.Equal(got.Scope, names("more")) {
		t.Fatalf("Begin: %#v, %d", got, errno)
	}
	c.Off = true
	wantErrno(t, "PutClient", b.x.PutClient(c), api.OK)
	after.clients["fresh"] = c
	_, errno := b.begin(birth{"fresh", "ann", nil, 0, secret(2)}, after)
	wantErrno(t, "switched off", errno, api.ErrClientOff)
	for range 2 {
		_, errno = b.begin(birth{"app", "ann", nil, 0, secret(3)}, after)
		wantErrno(t, "Begin", errno, api.OK)
	}
	_, errno = b.begin(birth{"app", "ann", nil, 0, secret(3)}, after)
	wantErrno(t, "a fifth, of which four are in the changes", errno, api.ErrGrantMany)
	f, errno := b.x.Family(1)
	wantErrno(t, "Family", errno, api.OK)
	f.State, f.Ended = api.Revoked, 100
	wantErrno(t, "PutFamily", b.x.PutFamily(f), api.OK)
	l := after.lines[1]
	l.state, l.ended = api.Revoked, 100
	after.lines[1] = l
	_, errno = b.begin(birth{"app", "ann", nil, 0, secret(4)}, after)
	wantErrno(t, "one has ended in the changes", errno, api.OK)
	b.x.Abort()
	b.look("forgotten")
}

// G2: the time is the table's; no reading is shown to it.
func TestBeginTime(t *testing.T) {
	b := newBoth(t)
	for _, now := range []int{0, 1, 100, lastTime - 1, lastTime} {
		b.x.See(now)
		b.b.see(now)
		b.wantBegin(someBirth(), api.OK)
		if b.x.Now() != now {
			t.Fatalf("the time is %d", b.x.Now())
		}
	}
}

// G2, G3: of each thing that may not be, alone, and of all together: ErrArg.
func TestBirthArguments(t *testing.T) {
	b := newBoth(t)
	var wrong []birth
	with := func(change func(a *birth)) {
		a := someBirth()
		change(&a)
		wrong = append(wrong, a)
	}
	for _, name := range wrongNames() {
		with(func(a *birth) { a.client = name })
		with(func(a *birth) { a.subject = name })
		with(func(a *birth) { a.client, a.subject = "gone", name })
		with(func(a *birth) { a.client, a.subject, a.scope, a.secret = name, name, names("b", "a"), "" })
	}
	for _, scope := range wrongScopes() {
		with(func(a *birth) { a.scope = scope })
		with(func(a *birth) { a.client, a.scope = "off", scope })
	}
	for _, n := range []int{0, 1, 23, 25, 48, 1000} {
		with(func(a *birth) { a.secret = many(n, "s") })
		with(func(a *birth) { a.client, a.secret = "gone", many(n, "s") })
	}
	for _, a := range wrong {
		b.wantBegin(a, api.ErrArg)
		b.want(issue(a.client, a.subject, a.scope, least, a.secret), api.ErrArg)
	}
	for _, code := range []int{least, -lastID, -1, lastID + 1, most} {
		for _, client := range []string{"app", "gone", "off"} {
			b.wantBegin(birth{client, "ann", nil, code, secret(1)}, api.ErrArg)
		}
	}
}

// G2, G3: what may just be.
func TestBirthEdges(t *testing.T) {
	wide := someClient("wide")
	wide.Scope = eight()
	bare := someClient(many(16, "z"))
	bare.Scope = nil
	b := founded(t, 256, 1, 0, append(three(), wide, bare)...)
	right := []birth{
		{"app", "a", nil, 0, secret(1)}, {"app", many(16, "-"), names(), 0, many(24, "\x00")}, {"app", "-._09az", names("read", "write"), 0, many(24, "\xff")},
		{"wide", "ann", eight(), 0, secret(2)}, {"wide", "ann", nil, 0, secret(3)}, {"wide", "ann", names("a", many(16, "h")), 0, secret(4)},
		{many(16, "z"), "ann", nil, 0, secret(5)}, {many(16, "z"), "bob", names(), 0, secret(5)},
	}
	for _, a := range right {
		b.wantBegin(a, api.OK)
		b.want(issue(a.client, a.subject, a.scope, least, a.secret), api.OK)
	}
	for _, code := range []int{0, 1, 7, lastID - 1, lastID} {
		after := b.b.copied()
		got, errno := b.begin(birth{"app", "eve", nil, code, secret(1)}, after)
		wantErrno(t, "Begin", errno, api.OK)
		if f, errno := b.x.Family(got.Family); f.Code != code || errno != api.OK {
			t.Fatalf("the code is %d, %d; want %d", f.Code, errno, code)
		}
		b.x.Abort()
	}
	b.look("behind all")
}

// G2, G3: clients that are not there, that are switched off, and what they may not do.
func TestBirthClients(t *testing.T) {
	b := newBoth(t)
	bare := someClient("bare")
	bare.Scope = nil
	b.b.clients["bare"] = bare
	wantErrno(t, "PutClient", b.x.PutClient(bare), api.OK)
	wantErrno(t, "Commit", b.x.Commit(), api.OK)
	for _, c := range []struct {
		client string
		scope  []string
		want   api.Errno
	}{
		{"gone", nil, api.ErrClientNone}, {"ap", nil, api.ErrClientNone}, {"appp", nil, api.ErrClientNone}, {"gone", names("admin"), api.ErrClientNone},
		{"off", nil, api.ErrClientOff}, {"off", names("admin"), api.ErrClientOff}, {"off", names("read"), api.ErrClientOff},
		{"app", names("admin"), api.ErrGrantScope}, {"app", names("admin", "read"), api.ErrGrantScope}, {"app", names("read", "write", "x"), api.ErrGrantScope},
		{"app", names("rea"), api.ErrGrantScope}, {"app", names("readd"), api.ErrGrantScope}, {"app", eight(), api.ErrGrantScope}, {"bare", names("read"), api.ErrGrantScope},
		{"bare", nil, api.OK}, {"app", nil, api.OK}, {"app", names("write"), api.OK}, {"web", names("admin", "write"), api.OK},
	} {
		b.wantBegin(birth{c.client, "ann", c.scope, 0, secret(1)}, c.want)
		b.want(issue(c.client, "ann", c.scope, 100, secret(1)), c.want)
	}
	b.want(turn("off", false, 101), api.OK)
	b.want(issue("off", "bob", nil, 101, secret(1)), api.OK)
	b.want(turn("off", true, 102), api.OK)
	b.want(issue("off", "bob", nil, 102, secret(1)), api.ErrClientOff)
}

// G2, G3: the fourth and the fifth family of a subject that are alive, with others that are not, and others' beside them.
func TestBirthMany(t *testing.T) {
	b := newBoth(t)
	ann := someBirth()
	var texts []string
	for n := range 4 {
		b.wantBegin(ann, api.OK)
		texts = append(texts, b.gives(issue([]string{"app", "web"}[n%2], "ann", nil, 100+n, secret(n))))
		b.want(issue("app", "bob", nil, 100+n, secret(n)), api.OK)
	}
	for _, client := range []string{"app", "web"} {
		ann.client = client
		b.wantBegin(ann, api.ErrGrantMany)
		b.want(issue(client, "ann", nil, 104, secret(5)), api.ErrGrantMany)
		b.want(issue(client, "ann", nil, 149, secret(5)), api.ErrGrantMany)
		b.want(issue(client, "ann", names("zzz"), 149, secret(5)), api.ErrGrantScope)
	}
	b.wantBegin(birth{"app", "an", nil, 0, secret(6)}, api.OK)
	b.wantBegin(birth{"app", "anna", nil, 0, secret(6)}, api.OK)
	b.want(issue("app", "ann", nil, 150, secret(7)), api.OK) // the first one is over, though it is Active
	b.want(issue("app", "ann", nil, 150, secret(7)), api.ErrGrantMany)
	b.want(revoke("web", texts[3], 150), api.OK)
	b.want(issue("app", "ann", nil, 150, secret(7)), api.OK)
	b.want(issue("app", "ann", nil, 150, secret(7)), api.ErrGrantMany)
	last := b.gives(rotate("app", texts[2], nil, 151, secret(8)))
	b.want(issue("app", "ann", nil, 151, secret(9)), api.OK) // the second one is over
	b.want(issue("app", "ann", nil, 151, secret(9)), api.ErrGrantMany)
	b.want(rotate("app", texts[2], nil, 161, secret(8)), api.ErrGrantToken) // and the third one ends
	b.want(introspect(last, 161), api.OK)
	b.want(issue("app", "ann", nil, 161, secret(9)), api.OK)
	b.want(issue("app", "ann", nil, 161, secret(9)), api.ErrGrantMany)
	if n := b.want(revokeAll("ann", 161), api.OK).count; n != 4 {
		t.Fatalf("RevokeAll: %d", n)
	}
	b.want(issue("app", "ann", nil, 161, secret(9)), api.OK)
}

// G3: a family that is issued at the last time is alive at none: there may be as many as you like.
func TestIssueAtTheLastTime(t *testing.T) {
	b := newBoth(t)
	for n := range 6 {
		text := b.gives(issue("app", "ann", nil, most, secret(n)))
		b.want(introspect(text, 0), api.OK)
	}
	if n := b.want(revokeAll("ann", 0), api.OK).count; n != 0 {
		t.Fatalf("RevokeAll: %d", n)
	}
}

// G3: readings of all kinds.
func TestIssueReadings(t *testing.T) {
	b := newBoth(t)
	for n, c := range [][2]int{{least, 0}, {-1, 0}, {0, 0}, {1, 1}, {0, 1}, {100, 100}, {99, 100}, {lastTime - 1, lastTime - 1}, {lastTime, lastTime}, {lastTime + 1, lastTime}, {most, lastTime}, {least, lastTime}} {
		b.want(issue("app", fmt.Sprint("s", n), nil, c[0], secret(n)), api.OK)
		if f, errno := b.x.Family(2*n + 1); f.Created != c[1] || f.Used != c[1] || errno != api.OK {
			t.Fatalf("Issue at %d: %#v, %d", c[0], f, errno)
		}
		b.event(api.EventIssue, 2*n+1, c[1], "app")
	}
}

// G3: what Issue has changed lasts; each is one commit, with its event.
func TestIssueLasts(t *testing.T) {
	b := newBoth(t)
	for n := range 40 { // more events than are kept
		b.want(issue("app", fmt.Sprint("s", n%11), rightScopes()[n%5], 100+n, secret(n)), api.OK)
	}
	b.reopen()
	for _, text := range b.b.texts() {
		b.quick(introspect(text, 0))
	}
}

// G2: two IDs are left, one, none; a number for the event, none.
func TestBeginWorn(t *testing.T) {
	for _, c := range []struct {
		next, base int
		want       api.Errno
	}{
		{lastID - 2, 0, api.OK}, {lastID - 1, 0, api.OK}, {lastID, 0, api.ErrTableWorn}, {lastID + 1, 0, api.ErrTableWorn},
		{1, lastID - 2, api.OK}, {1, lastID - 1, api.OK}, {1, lastID, api.ErrTableWorn},
		{lastID - 1, lastID - 1, api.OK}, {lastID, lastID - 1, api.ErrTableWorn}, {lastID - 1, lastID, api.ErrTableWorn}, {lastID + 1, lastID, api.ErrTableWorn},
	} {
		b := founded(t, 64, c.next, c.base, three()...)
		for range 2 {
			b.wantBegin(someBirth(), c.want)
			b.wantBegin(birth{"app", "ann", names("admin"), 0, secret(1)}, api.ErrGrantScope)
		}
		b.want(issue("app", "ann", nil, 100, secret(1)), c.want)
		b.reopen()
	}
}

// G2: a Begin that no number is left for leaves what was begun ahead of it.
func TestBeginWornGoesOn(t *testing.T) {
	for _, c := range [][2]int{{lastID - 2, 0}, {lastID - 1, 0}, {1, lastID - 1}} {
		b := founded(t, 64, c[0], c[1], three()...)
		after := b.b.copied()
		_, errno := b.begin(someBirth(), after)
		wantErrno(t, "Begin", errno, api.OK)
		for range 3 {
			_, errno = b.begin(someBirth(), after)
			wantErrno(t, "Begin again", errno, api.ErrTableWorn)
		}
		b.x.Abort()
		b.look("forgotten")
		_, errno = b.begin(someBirth(), b.b.copied())
		wantErrno(t, "Begin anew", errno, api.OK)
	}
}

// G2, G3: a dead disk is told behind what hangs on the arguments alone, ahead of all else.
func TestBirthDead(t *testing.T) {
	b := newBoth(t)
	b.want(issue("app", "ann", nil, 100, secret(1)), api.OK)
	kill(t, b.d)
	for _, client := range []string{"app", "off", "gone"} {
		for _, scope := range [][]string{nil, names("admin")} {
			b.wantRefused(issue(client, "ann", scope, 110, secret(1)), api.ErrDead)
			if a, errno := grant.Begin(b.x, client, "ann", scope, 5, secret(1)); errno != api.ErrDead || !same(a, api.Issued{}) {
				t.Fatalf("Begin: %v, %d", a, errno)
			}
			b.wantRefused(issue(client, "Ann", scope, 110, secret(1)), api.ErrArg)
			if _, errno := grant.Begin(b.x, client, "ann", scope, -1, secret(1)); errno != api.ErrArg {
				t.Fatalf("Begin: %d", errno)
			}
		}
	}
	if b.x.Now() != 110 {
		t.Fatalf("the time is %d", b.x.Now())
	}
}
