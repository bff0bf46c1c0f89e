package sweep_test

import (
	"fmt"
	"testing"

	"latchkey/api"
)

// wrongMosts are no numbers of families that one sweep may take.
var wrongMosts = []int{least, least + 1, -lastID, -16, -1, 0, 17, 18, 32, lastTime, lastID, most}

// S2: a most that may not be: nothing is changed, but that the clock has seen the reading; also on a dead disk.
func TestRunMostMayNotBe(t *testing.T) {
	image := newBoth(t)
	image.issued("ann", 100, 1)
	image.approved("ann", 10, 100, 2)
	for _, count := range wrongMosts {
		b := image.twin(t)
		b.want(run(0, count, 1000), api.ErrArg)
		b.left(1)
		b.codes(3)
		kill(t, b.d)
		for n, retain := range retains {
			b.wantRefused(run(retain.is, count, 1001+n), api.ErrArg)
			if b.x.Now() != 1001+n {
				t.Fatalf("the time is %d", b.x.Now())
			}
		}
	}
}

// S2: each most that may be, of more families that are due.
func TestRunMost(t *testing.T) {
	t.Parallel()
	image := founded(t, 300, 1, 0, three()...)
	for n := range 20 { // each ends a second ahead of the one that was begun ahead of it
		token := image.quick(issue("app", fmt.Sprint("s", n), nil, 100, secret(n))).issued.Token
		for g := range n % 3 {
			token = image.quick(rotate("app", token, nil, 100, secret(100+3*n+g))).issued.Token
		}
	}
	ids := image.b.ids()
	for n := range 20 {
		image.quick(revokeAll(fmt.Sprint("s", 19-n), 110+n))
	}
	image.look("twenty families")
	for count := 1; count <= 16; count++ {
		t.Run(fmt.Sprint(count), func(t *testing.T) {
			t.Parallel()
			b := image.twin(t)
			for gone := 0; gone < 20; gone += count {
				n := min(count, 20-gone)
				want := api.Swept{Families: n}
				var swept []int
				for _, k := range []int{0, 1, 2, 3, 4, 5, 6, 7, 8, 9, 10, 11, 12, 13, 14, 15}[:n] {
					at := 19 - gone - k
					want.Tokens += 1 + at%3
					swept = append(swept, ids[at])
				}
				b.due(0, 200, 20-gone, 0)
				b.run(0, count, 200, want)
				b.sweeps(200, "app", swept...)
			}
			b.left()
			b.due(0, 200, 0, 0)
			b.run(0, count, 200, api.Swept{})
		})
	}
}

// S2: only those that are due go, though there were room for more.
func TestRunOnlyDue(t *testing.T) {
	b := newBoth(t)
	for n := range 4 {
		b.issued("ann", 100+10*n, n) // their ENDs are 150, 160, 170 and 180
	}
	b.run(5, 16, 164, api.Swept{Families: 1, Tokens: 1})
	b.left(3, 5, 7)
	b.run(5, 1, 175, api.Swept{Families: 1, Tokens: 1})
	b.left(5, 7)
	b.run(5, 16, 175, api.Swept{Families: 1, Tokens: 1})
	b.left(7)
	b.run(5, 16, 184, api.Swept{})
	b.run(5, 16, 185, api.Swept{Families: 1, Tokens: 1})
	b.left()
}

// S2: equal ENDs: by rising IDs, in whatever way and order they came to these.
func TestRunEqualEnds(t *testing.T) {
	b := newBoth(t)
	first := b.issued("ann", 100, 1)                          // 1: revoked at 160
	b.want(issue("web", "bob", nil, 105, secret(2)), api.OK)  // 3: its END is 155
	b.issued("eve", 110, 3)                                   // 5: its END is 160
	fourth := b.issued("zoe", 110, 4)                         // 7: revoked at 160, ahead of the first one
	b.want(issue("web", "eve", nil, 110, secret(5)), api.OK)  // 9: its END is 160
	b.want(rotate("app", first, nil, 120, secret(6)), api.OK) // by which it is used
	b.want(revoke("app", fourth, 160), api.OK)
	b.want(revoke("app", textOf("lkr_", 11, secret(6)), 160), api.OK)
	twin := b.twin(t)
	for _, id := range []int{3, 1, 5, 7} {
		who, tokens := "app", 1
		if id == 1 {
			tokens = 2
		}
		if id == 3 {
			who = "web"
		}
		b.run(0, 1, 160, api.Swept{Families: 1, Tokens: tokens})
		b.sweeps(160, who, id)
	}
	b.left(9)
	twin.run(0, 4, 160, api.Swept{Families: 4, Tokens: 5})
	twin.sweeps(160, "app", 1, 5, 7)
	twin.left(9)
}

// S2: those that ended first go first, whatever their IDs are.
func TestRunByEnds(t *testing.T) {
	b := newBoth(t)
	one, two, three := b.issued("ann", 100, 1), b.issued("ann", 100, 2), b.issued("ann", 100, 3)
	b.want(revoke("app", three, 110), api.OK)
	b.want(revoke("app", one, 120), api.OK)
	b.want(revoke("app", two, 130), api.OK)
	b.run(0, 16, 130, api.Swept{Families: 3, Tokens: 3})
	b.sweeps(130, "app", 5, 1, 3)
}

// S2: a family that came of a code: both go, also if that was good for longer; and one that was issued beside it.
func TestRunWithCode(t *testing.T) {
	for _, life := range []int{1, 50, 1000, most} {
		b := newBoth(t)
		code, token := b.redeemed("ann", life, 100, 1) // 1 and 2
		b.redeemed("bob", life, 120, 2)                // 4 and 5
		b.issued("ann", 100, 3)                        // 7, from 120 on
		b.want(revoke("app", token, 120), api.OK)
		b.due(10, 129, 0, 0)
		b.run(10, 16, 130, api.Swept{Families: 1, Tokens: 1, Codes: 1})
		b.sweeps(130, "app", 2)
		b.left(5, 7)
		b.codes(4)
		b.want(redeem("app", code, v, 131, secret(9)), api.ErrCodeToken)
		b.due(0, 169, 0, 0)
		b.run(0, 16, 170, api.Swept{Families: 2, Tokens: 2, Codes: 1})
		b.sweeps(170, "app", 5, 7)
		b.codes()
	}
}

// S2: a code that is Spent stays as long as its family, however long it has been over.
func TestRunSpentCodeStays(t *testing.T) {
	long := someClient("long")
	long.Idle, long.Absolute = lastTime, lastTime
	b := founded(t, 64, 1, 0, long)
	text := b.gives(approve("long", "ann", nil, ofV, 1, 100, secret(1)))
	b.want(redeem("long", text, v, 100, secret(2)), api.OK)
	b.run(0, 16, lastTime-1, api.Swept{})
	b.codes(1)
	b.want(redeem("long", text, v, 0, secret(3)), api.ErrCodeToken) // and ends it, as ever
	b.run(0, 16, 0, api.Swept{Families: 1, Tokens: 1, Codes: 1})
	b.codes()
}

// S2: a family whose code is gone, as no layer below leaves it.
func TestRunCodeGone(t *testing.T) {
	b := newBoth(t)
	b.redeemed("ann", 30, 100, 1)
	b.redeemed("bob", 30, 100, 2)
	wantErrno(t, "RemoveCode", b.x.RemoveCode(1), api.OK)
	wantErrno(t, "Commit", b.x.Commit(), api.OK)
	delete(b.b.slips, 1)
	c := run(0, 16, 150)
	if got, want := c.do(b.x), c.book(b.b); !got.same(want) || got.swept != (api.Swept{Families: 2, Tokens: 2, Codes: 1}) {
		t.Fatalf("%#v, want %#v", got, want)
	}
	b.look("swept")
	b.reopen()
}

// S2: as many tokens as there are.
func TestRunTokens(t *testing.T) {
	b := founded(t, 300, 1, 0, three()...)
	sum := 0
	for n, generations := range []int{1, 2, 7, 40, 3} {
		token := b.quick(issue("app", fmt.Sprint("s", n), nil, 100, secret(n))).issued.Token
		for g := range generations - 1 {
			token = b.quick(rotate("app", token, nil, 100, secret(1000*n+g))).issued.Token
		}
		sum += generations
	}
	twin := b.twin(t)
	b.run(0, 16, 150, api.Swept{Families: 5, Tokens: sum})
	for _, generations := range []int{1, 2, 7, 40, 3} {
		twin.run(0, 1, 150, api.Swept{Families: 1, Tokens: generations})
	}
	for id := range 2 * sum {
		if _, errno := b.x.Token(1 + id); errno != api.ErrTableNone {
			t.Fatalf("the token %d: %d", 1+id, errno)
		}
	}
}

// S2: all codes that are due go, whatever most is; of these there are no events.
func TestRunCodes(t *testing.T) {
	image := newBoth(t)
	for n := range 8 {
		image.approved(fmt.Sprint("s", n), 10+n, 100, n)
	}
	for n := range 9 {
		for _, count := range []int{1, 16} {
			b := image.twin(t)
			events := len(b.b.events)
			b.run(20, count, 129+n, api.Swept{Codes: n})
			b.codes([]int{1, 2, 3, 4, 5, 6, 7, 8}[n:]...)
			if len(b.b.events) != events {
				t.Fatal("the test is wrong")
			}
			b.run(20, count, 129+n, api.Swept{})
			b.reopen()
		}
	}
}

// S2: families, with codes and without, and codes beside: one commit, and the events of the families alone.
func TestRunBoth(t *testing.T) {
	b := newBoth(t)
	b.redeemed("ann", 30, 100, 1)                            // 1, 2
	b.issued("bob", 101, 2)                                  // 4
	b.want(issue("web", "bob", nil, 102, secret(3)), api.OK) // 6
	b.redeemed("ann", 30, 103, 4)                            // 8, 9
	b.approved("eve", 30, 104, 5)                            // 11: over at 134
	b.approved("eve", 50, 104, 6)                            // 12: over at 154
	b.due(0, 153, 4, 1)
	twin := b.twin(t)
	b.run(0, 3, 153, api.Swept{Families: 3, Tokens: 3, Codes: 2})
	b.left(9)
	b.codes(8, 12)
	b.reopen()
	b.run(0, 16, 154, api.Swept{Families: 1, Tokens: 1, Codes: 2})
	b.sweeps(154, "app", 9)
	b.left()
	b.codes()
	twin.run(3, 16, 153, api.Swept{Families: 1, Tokens: 1, Codes: 2})
	twin.sweeps(153, "app", 2)
	twin.run(0, 16, 153, api.Swept{Families: 3, Tokens: 3, Codes: 1})
	twin.left()
	l, errno := twin.x.Events()
	wantErrno(t, "Events", errno, api.OK)
	for n, want := range []api.Event{{Family: 4, Who: "app"}, {Family: 6, Who: "web"}, {Family: 9, Who: "app"}} {
		if e := l[len(l)-3+n]; e.Kind != api.EventSweep || e.Family != want.Family || e.Who != want.Who || e.Time != 153 {
			t.Fatalf("the events are %v", l)
		}
	}
}

// S2: what was swept is gone for good, and its numbers do not come again.
func TestRunNumbers(t *testing.T) {
	b := newBoth(t)
	code, token := b.redeemed("ann", 30, 100, 1) // 1, 2, 3
	other := b.approved("ann", 30, 100, 2)       // 4
	b.run(0, 16, 150, api.Swept{Families: 1, Tokens: 1, Codes: 2})
	b.issued("ann", 150, 1001) // 5, 6
	b.left(5)
	b.approved("ann", 30, 150, 1)
	b.codes(7)
	for _, text := range []string{code, other} {
		b.want(redeem("app", text, v, 151, secret(9)), api.ErrCodeToken)
	}
	b.want(rotate("app", token, nil, 151, secret(9)), api.ErrGrantToken)
	b.want(revoke("app", token, 151), api.OK)
	if b.want(introspect(token, 151), api.OK).info.Active {
		t.Fatal("it is active")
	}
}

// S2: a subject's families that are gone are not the subject's any more.
func TestRunSubject(t *testing.T) {
	b := newBoth(t)
	for n := range 4 {
		b.issued("ann", 100, n)
	}
	b.want(issue("app", "ann", nil, 149, secret(9)), api.ErrGrantMany)
	b.run(0, 3, 150, api.Swept{Families: 3, Tokens: 3})
	if l, errno := b.x.Subject("ann"); errno != api.OK || len(l) != 1 || l[0] != 7 {
		t.Fatalf("%v, %d", l, errno)
	}
	if n := b.want(revokeAll("ann", 150), api.OK).count; n != 0 {
		t.Fatalf("%d were alive", n)
	}
	b.run(0, 3, 150, api.Swept{Families: 1, Tokens: 1})
}

// S2: sweeps of as many families as may be, one behind the other: the trail has the last of their events, and goes on.
func TestRunTrail(t *testing.T) {
	b := founded(t, 300, 1, 0, three()...)
	for n := range 50 {
		wantErrno(t, "Issue", b.quick(issue("app", fmt.Sprint("s", n/4), nil, 100, secret(n))).errno, api.OK)
	}
	for range 3 {
		b.run(0, 16, 150, api.Swept{Families: 16, Tokens: 16})
	}
	b.run(0, 16, 150, api.Swept{Families: 2, Tokens: 2})
	b.run(0, 16, 150, api.Swept{})
}
