package code_test

import (
	"fmt"
	"slices"
	"testing"

	"latchkey/api"
)

// wish is what Approve is asked.
type wish struct {
	client, subject string
	scope           []string
	challenge       string
	life, now       int
	secret          string
}

func someWish() wish { return wish{"app", "ann", names("read"), ofV, 30, 100, secret(1)} }

func (a wish) call() call {
	return approve(a.client, a.subject, a.scope, a.challenge, a.life, a.now, a.secret)
}

// C2: the code, its event, the one commit; the ones behind it.
func TestApprove(t *testing.T) {
	b := newBoth(t)
	text := b.gives(someWish().call())
	first := api.Code{ID: 1, Client: "app", Subject: "ann", Scope: names("read"), Hash: digestOf(text), Challenge: digestOf(v), Until: 130, State: api.CodeFresh}
	b.codes(first)
	b.event(api.EventCode, 0, 100, "app")
	other := b.gives(approve("web", "bob", names("admin"), ofW, 5, 101, secret(2)))
	second := api.Code{ID: 2, Client: "web", Subject: "bob", Scope: names("admin"), Hash: digestOf(other), Challenge: digestOf(w), Until: 106, State: api.CodeFresh}
	b.codes(first, second)
	b.event(api.EventCode, 0, 101, "web")
	if text != textOf("lkc_", 1, secret(1)) || other != textOf("lkc_", 2, secret(2)) {
		t.Fatalf("%q, %q", text, other)
	}
	b.reopen()
	b.codes(first, second)
}

// C2: each thing that may not be, alone, and together with all that is asked behind it.
func TestApproveArguments(t *testing.T) {
	b := newBoth(t)
	for n := range 8 { // a ninth would be one too many
		b.code(1000, 90, n)
	}
	var wrong []wish
	with := func(change func(a *wish)) {
		for _, client := range []string{"app", "gone", "off"} {
			a := someWish()
			a.client = client
			change(&a)
			wrong = append(wrong, a)
			a.scope = append(a.scope, "zzz")
			wrong = append(wrong, a)
		}
	}
	for _, name := range wrongNames() {
		with(func(a *wish) { a.client = name })
		with(func(a *wish) { a.subject = name })
		with(func(a *wish) {
			a.client, a.subject, a.scope, a.challenge, a.secret = name, name, names("b", "a"), "", ""
		})
	}
	for _, scope := range wrongScopes() {
		with(func(a *wish) { a.scope = slices.Clone(scope) })
	}
	for _, c := range wrongChallenges() {
		with(func(a *wish) { a.challenge = c })
	}
	for _, n := range []int{0, 1, 23, 25, 48, 1000} {
		with(func(a *wish) { a.secret = many(n, "s") })
	}
	for _, a := range wrong {
		wantErrno(t, a.call().what, b.quick(a.call()).errno, api.ErrArg)
	}
	b.look("behind all")
	for _, n := range []int{23, 24, 25} {
		want := api.ErrArg
		if n == 24 {
			want = api.OK
		}
		c := approve("app", "ann", nil, ofV, 30, 1090, many(n, "s"))
		b.want(c, want)
	}
}

// C2: what may just be.
func TestApproveEdges(t *testing.T) {
	wide := someClient("wide")
	wide.Scope = eight()
	bare := someClient(many(16, "z"))
	bare.Scope = nil
	b := founded(t, 256, 1, 0, append(three(), wide, bare)...)
	for n, a := range []wish{
		{"app", "a", nil, ofV, 30, 100, secret(1)}, {"app", many(16, "-"), names(), ofV, 30, 100, many(24, "\x00")}, {"app", "-._09az", names("read", "write"), ofV, 30, 100, many(24, "\xff")},
		{"wide", "ann", eight(), ofV, 30, 200, secret(2)}, {"wide", "ann", nil, ofV, 30, 200, secret(2)}, {"wide", "ann", names("a", many(16, "h")), ofV, 30, 200, secret(2)},
		{many(16, "z"), "ann", nil, ofV, 30, 300, secret(2)}, {many(16, "z"), "bob", names(), ofV, 30, 300, secret(2)},
	} {
		text := b.gives(a.call())
		if text != textOf("lkc_", 1+n, a.secret) {
			t.Fatalf("%s: %q", a.call().what, text)
		}
		want := a.scope
		if len(want) == 0 {
			want = b.b.clients[a.client].Scope
		}
		if k, errno := b.x.Code(1 + n); errno != api.OK || !slices.Equal(k.Scope, want) {
			t.Fatalf("%s: %#v, %d", a.call().what, k, errno)
		}
	}
}

// C2: no such client, one that is switched off, and what it may not do.
func TestApproveClients(t *testing.T) {
	bare := someClient("bare")
	bare.Scope = nil
	b := founded(t, 128, 1, 0, append(three(), bare)...)
	for n, c := range []struct {
		client string
		scope  []string
		want   api.Errno
	}{
		{"gone", nil, api.ErrClientNone}, {"ap", nil, api.ErrClientNone}, {"appp", nil, api.ErrClientNone}, {"gone", names("admin"), api.ErrClientNone},
		{"off", nil, api.ErrClientOff}, {"off", names("admin"), api.ErrClientOff}, {"off", names("read"), api.ErrClientOff},
		{"app", names("admin"), api.ErrGrantScope}, {"app", names("admin", "read"), api.ErrGrantScope}, {"app", names("read", "write", "x"), api.ErrGrantScope},
		{"app", names("rea"), api.ErrGrantScope}, {"app", names("readd"), api.ErrGrantScope}, {"app", eight(), api.ErrGrantScope}, {"bare", names("read"), api.ErrGrantScope},
		{"bare", nil, api.OK}, {"app", nil, api.OK}, {"app", names("write"), api.OK}, {"web", names("admin", "write"), api.OK},
	} {
		b.want(approve(c.client, "ann", c.scope, ofV, 30, 100, secret(n)), c.want)
	}
	b.want(turn("off", false, 101), api.OK)
	b.want(approve("off", "bob", nil, ofV, 30, 101, secret(1)), api.OK)
	b.want(turn("off", true, 102), api.OK)
	b.want(approve("off", "bob", nil, ofV, 30, 102, secret(1)), api.ErrClientOff)
}

// C2: lives and times of all kinds.
func TestApproveUntil(t *testing.T) {
	for _, c := range []struct{ now, life, until int }{
		{100, 30, 130}, {100, 1, 101}, {100, 0, 100}, {100, -1, 100}, {100, -5, 100}, {100, -100, 100}, {100, -101, 100}, {100, -lastTime, 100}, {100, least, 100}, {100, least + 1, 100},
		{100, lastTime - 101, lastTime - 1}, {100, lastTime - 100, lastTime}, {100, lastTime - 99, lastTime}, {100, lastTime, lastTime}, {100, lastTime + 1, lastTime}, {100, lastID, lastTime}, {100, most - 1, lastTime}, {100, most, lastTime},
		{0, 0, 0}, {0, -1, 0}, {0, 1, 1}, {-7, 3, 3}, {least, least, 0}, {least, most, lastTime},
		{lastTime - 1, 0, lastTime - 1}, {lastTime - 1, 1, lastTime}, {lastTime - 1, 2, lastTime}, {lastTime, 0, lastTime}, {lastTime, 1, lastTime}, {lastTime, -1, lastTime}, {lastTime + 5, 5, lastTime}, {most, most, lastTime}, {most, least, lastTime},
	} {
		b := newBoth(t)
		text := b.gives(approve("app", "ann", nil, ofV, c.life, c.now, secret(1)))
		if k, errno := b.x.Code(1); errno != api.OK || k.Until != c.until {
			t.Fatalf("%v: %#v, %d", c, k, errno)
		}
		at := max(0, min(c.now, lastTime))
		want := api.OK
		if c.until <= at {
			want = api.ErrCodeToken
		}
		b.twin(t).want(redeem("app", text, v, least, secret(2)), want)
		if c.until > 0 {
			b.twin(t).want(redeem("app", text, v, c.until-1, secret(2)), want)
		}
		b.want(redeem("app", text, v, c.until, secret(2)), api.ErrCodeToken)
		b.want(approve("app", "bob", nil, ofV, 30, c.until, secret(3)), api.OK)
		if _, errno := b.x.Code(1); errno != api.ErrTableNone {
			t.Fatalf("%v: the code that is over is there, %d", c, errno)
		}
	}
}

// C2: the time is the clock's, not the reading: Until goes from there.
func TestApproveBehindTheTime(t *testing.T) {
	b := newBoth(t)
	b.want(turn("web", true, 500), api.OK)
	for n, now := range []int{100, 0, least, 499, 500, 501, 3} {
		b.want(approve("app", "ann", nil, ofV, 30, now, secret(n)), api.OK)
		want := 530
		if n >= 5 {
			want = 531
		}
		if k, errno := b.x.Code(1 + n); errno != api.OK || k.Until != want {
			t.Fatalf("at %d: %#v, %d", now, k, errno)
		}
		b.event(api.EventCode, 0, want-30, "app")
	}
}

// C2: the eighth code and the ninth, of whatever clients, with others that are over, and others that are Spent.
func TestApproveMany(t *testing.T) {
	b := newBoth(t)
	for n := range 4 { // Spent ones do not count
		text := b.code(30, 100, n)
		b.want(redeem("app", text, v, 100, secret(10+n)), api.OK)
	}
	for n := range 3 { // these will be over
		b.want(approve("web", "bob", nil, ofW, n, 100, secret(n)), api.OK)
	}
	var texts []string
	for n := range 7 {
		texts = append(texts, b.gives(approve([]string{"app", "web"}[n%2], fmt.Sprint("s", n), nil, ofV, 20+n, 102, secret(20+n))))
	}
	b.want(approve("app", "eve", nil, ofV, 18, 102, secret(30)), api.OK) // the eighth
	if l, errno := b.x.Codes(); errno != api.OK || len(l) != 12 {
		t.Fatalf("%d codes, %d", len(l), errno)
	}
	for _, now := range []int{102, 103, 119} {
		for _, client := range []string{"app", "web"} {
			b.want(approve(client, "eve", nil, ofV, 30, now, secret(31)), api.ErrCodeMany)
			b.want(approve(client, "eve", names("zzz"), ofV, 30, now, secret(31)), api.ErrGrantScope)
			b.want(approve(client, "eve", nil, ofV, 0, now, secret(31)), api.ErrCodeMany) // also one that would be over at once
		}
		b.want(approve("off", "eve", nil, ofV, 30, now, secret(31)), api.ErrClientOff)
	}
	full := b.twin(t)
	full.want(approve("app", "eve", nil, ofV, 30, 120, secret(31)), api.OK) // one is over
	full.want(approve("app", "eve", nil, ofV, 30, 120, secret(31)), api.ErrCodeMany)
	b.want(redeem("app", texts[0], v, 119, secret(32)), api.OK) // one is Spent
	b.want(approve("app", "eve", nil, ofV, 30, 119, secret(33)), api.OK)
	b.want(approve("app", "eve", nil, ofV, 30, 119, secret(33)), api.ErrCodeMany)
	b.want(approve("app", "eve", nil, ofV, 30, 149, secret(34)), api.OK) // all are over: what is Spent stays
	if l, errno := b.x.Codes(); errno != api.OK || len(l) != 6 || l[5].State != api.CodeFresh || l[4].State != api.CodeSpent {
		t.Fatalf("%#v, %d", l, errno)
	}
}

// C2: codes that are over stay until the next one is approved, and only those that are over go; a refusal takes none away.
func TestApproveTakesAway(t *testing.T) {
	b := newBoth(t)
	for n := range 8 {
		b.code(10+10*n, 100, n)
	}
	b.reopen()
	for _, c := range []call{
		approve("App", "ann", nil, ofV, 30, 135, secret(9)), approve("gone", "ann", nil, ofV, 30, 135, secret(9)), approve("off", "ann", nil, ofV, 30, 135, secret(9)),
		approve("app", "ann", names("admin"), ofV, 30, 135, secret(9)), approve("app", "ann", nil, "", 30, 135, secret(9)),
	} {
		b.call(c)
		if l, errno := b.x.Codes(); errno != api.OK || len(l) != 8 {
			t.Fatalf("%s: %d codes, %d", c.what, len(l), errno)
		}
	}
	for _, c := range []struct{ now, there int }{{135, 6}, {139, 6}, {140, 5}, {169, 3}, {170, 2}} {
		b.want(approve("app", "ann", nil, ofV, 0, c.now, secret(9)), api.OK) // over at once, and there until the next one
		if l, errno := b.x.Codes(); errno != api.OK || len(l) != c.there {
			t.Fatalf("at %d: %#v, %d", c.now, l, errno)
		}
	}
	b.want(approve("app", "ann", nil, ofV, 5, 400, secret(10)), api.OK)
	if l, errno := b.x.Codes(); errno != api.OK || len(l) != 1 || l[0].Until != 405 {
		t.Fatalf("%#v, %d", l, errno)
	}
}

// C2: as many codes as you like that are over at once.
func TestApproveWithoutALife(t *testing.T) {
	b := newBoth(t)
	for n := range 20 {
		text := b.gives(approve("app", "ann", nil, ofV, 0, 100, secret(n)))
		if l, errno := b.x.Codes(); errno != api.OK || len(l) != 1 || l[0].ID != 1+n {
			t.Fatalf("%#v, %d", l, errno)
		}
		b.want(redeem("app", text, v, 100, secret(n)), api.ErrCodeToken)
	}
}

// C2: an ID is left, and none; a number for the event, and none. What is over stays, if the one that would come is refused.
func TestApproveWorn(t *testing.T) {
	for _, c := range []struct {
		next, base int
		want       []api.Errno
	}{
		{lastID - 1, 0, []api.Errno{api.OK, api.OK, api.ErrTableWorn, api.ErrTableWorn}},
		{lastID, 0, []api.Errno{api.OK, api.ErrTableWorn, api.ErrTableWorn}},
		{lastID + 1, 0, []api.Errno{api.ErrTableWorn, api.ErrTableWorn}},
		{1, lastID - 2, []api.Errno{api.OK, api.OK, api.ErrTableWorn, api.ErrTableWorn}},
		{1, lastID - 1, []api.Errno{api.OK, api.ErrTableWorn}},
		{1, lastID, []api.Errno{api.ErrTableWorn}},
		{lastID, lastID - 1, []api.Errno{api.OK, api.ErrTableWorn}},
		{lastID + 1, lastID, []api.Errno{api.ErrTableWorn}},
	} {
		b := founded(t, 64, c.next, c.base, three()...)
		for n, want := range c.want {
			b.want(approve("app", "ann", nil, ofV, 10, 100+20*n, secret(n)), want)
			b.want(approve("app", "ann", names("admin"), ofV, 10, 100+20*n, secret(n)), api.ErrGrantScope)
		}
	}
	b := founded(t, 64, lastID, 0, three()...)
	text := b.gives(approve("app", "ann", nil, ofV, 10, 100, secret(1)))
	if text != textOf("lkc_", lastID, secret(1)) {
		t.Fatalf("%q", text)
	}
	b.want(redeem("app", text, v, 109, secret(2)), api.ErrTableWorn)
	b.want(redeem("app", text, v, 110, secret(2)), api.ErrCodeToken)
}

// C2: what was approved lasts; more events than are kept.
func TestApproveLasts(t *testing.T) {
	b := newBoth(t)
	for n := range 45 {
		b.want(approve([]string{"app", "web"}[n%2], fmt.Sprint("s", n%7), [][]string{nil, {"read"}}[n%2], challengeOf(verifier(n)), 7, 100+n, secret(n)), api.OK)
		if n%9 == 0 {
			b.reopen()
		}
	}
	b.reopen()
}

// DOC.md's words: what is kept of a text is its digest. Neither the text, nor its secret, nor a verifier stands on the disk.
func TestNoTextStands(t *testing.T) {
	b := newBoth(t)
	text := b.gives(approve("app", "ann", nil, ofV, 30, 100, many(24, "\xabs")[:24]))
	b.want(redeem("app", text, v, 101, many(24, "\xcds")[:24]), api.OK)
	b.wantNowhere(text, text[4:], many(24, "\xabs")[:24], many(24, "\xcds")[:24], v, ofV)
}
