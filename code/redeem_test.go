package code_test

import (
	"fmt"
	"slices"
	"testing"

	"latchkey/api"
	"latchkey/code"
)

// approved is a table with the code 1 of app's for ann, the scope read, the challenge of v, from 100 to 130: its text.
func approved(t *testing.T) (*both, string) {
	t.Helper()
	b := newBoth(t)
	return b, b.gives(approve("app", "ann", names("read"), ofV, 30, 100, secret(1)))
}

// spent is the same, redeemed at 110: the family 2, whose token is 3.
func spent(t *testing.T) (*both, string) {
	t.Helper()
	b, text := approved(t)
	b.want(redeem("app", text, v, 110, secret(2)), api.OK)
	return b, text
}

// C3: the family, the code, the event, the one commit.
func TestRedeem(t *testing.T) {
	b, text := approved(t)
	a := b.want(redeem("app", text, v, 110, secret(2)), api.OK).issued
	if !same(a, api.Issued{Token: textOf("lkr_", 3, secret(2)), Family: 2, Gen: 1, Scope: names("read"), Subject: "ann", Life: 20}) {
		t.Fatalf("Redeem: %#v", a)
	}
	f, errno := b.x.Family(2)
	if errno != api.OK || !same(f, api.Family{
		ID: 2, Client: "app", Subject: "ann", Scope: names("read"), Created: 110, Used: 110, Idle: 50, Absolute: 120, Grace: 10, Gen: 1, Token: 3, State: api.Active, Code: 1,
	}) {
		t.Fatalf("the family: %#v, %d", f, errno)
	}
	b.codes(api.Code{ID: 1, Client: "app", Subject: "ann", Scope: names("read"), Hash: digestOf(text), Challenge: digestOf(v), Until: 130, State: api.CodeSpent, Family: 2})
	b.event(api.EventIssue, 2, 110, "app")
	if info := b.want(introspect(a.Token, 110), api.OK).info; !info.Active || info.Family != 2 {
		t.Fatalf("Introspect: %#v", info)
	}
	b.want(rotate("app", a.Token, nil, 111, secret(3)), api.OK)
	b.reopen()
}

// C3: what may not be, ahead of all else.
func TestRedeemArguments(t *testing.T) {
	b, text := approved(t)
	for _, name := range wrongNames() {
		for _, shown := range []string{text, "", "x"} {
			b.want(redeem(name, shown, v, 110, secret(2)), api.ErrArg)
			b.want(redeem(name, shown, "", 110, ""), api.ErrArg)
		}
	}
	for _, n := range []int{0, 1, 23, 25, 48, 1000} {
		for _, client := range []string{"app", "web", "off", "gone"} {
			b.want(redeem(client, text, v, 110, many(n, "s")), api.ErrArg)
			b.want(redeem(client, "x", "", 110, many(n, "s")), api.ErrArg)
		}
	}
	b.want(redeem("gone", text, v, 110, secret(2)), api.ErrClientNone)
	b.want(redeem("gone", "x", "", 110, secret(2)), api.ErrClientNone)
	b.want(redeem("app", text, v, 110, many(24, "\xff")), api.OK)
}

// wrongTexts are some that are nearly that of the code 1, whose secret is secret(1).
func wrongTexts(text string) []string {
	l := []string{
		"", "x", text[:51], text[1:], text + "A", text + "=", " " + text, text + "\n", text + text, "LKC_" + text[4:], many(52, "A"), "lkc_" + many(48, "A"), many(100000, "l"),
		textOf("lkr_", 1, secret(1)), "lkr_" + text[4:], // of the other kind
		textOf("lkc_", 2, secret(1)), textOf("lkc_", 0, secret(1)), textOf("lkc_", lastID, secret(1)), textOf("lkc_", lastID+1, secret(1)), // no such ID
		textOf("lkc_", 1, secret(0)), textOf("lkc_", 1, secret(2)), textOf("lkc_", 1, many(24, "\x00")), // another secret
	}
	for at := range len(text) { // mistyped
		for _, bit := range []byte{1, 2, 32} {
			s := []byte(text)
			s[at] ^= bit
			l = append(l, string(s))
		}
	}
	return l
}

// C3: a text that is refused in each way, of a code that is Fresh, over and Spent: nothing is changed.
func TestRedeemTexts(t *testing.T) {
	fresh, text := approved(t)
	over := fresh.twin(t)
	over.want(turn("off", false, 200), api.OK)
	done, _ := spent(t)
	for _, b := range []*both{fresh, over, done} {
		before := b.state()
		for _, s := range wrongTexts(text) {
			for _, shown := range []string{v, w, ""} {
				wantErrno(t, fmt.Sprintf("%.60q", s), b.quick(redeem("app", s, shown, 110, secret(2))).errno, api.ErrCodeToken)
			}
		}
		for _, client := range []string{"web", "off"} { // another client's
			for _, shown := range []string{v, w, ""} {
				b.want(redeem(client, text, shown, 110, secret(2)), api.ErrCodeToken)
			}
		}
		if after := b.state(); after != before {
			t.Fatalf("%d acts", after.acts-before.acts)
		}
		b.look("behind all")
	}
}

// C3: a refresh token is no code, also one of a family that came of it; and a code is no refresh token.
func TestRedeemOtherKind(t *testing.T) {
	b, text := approved(t)
	token := b.gives(redeem("app", text, v, 110, secret(2)))
	b.want(redeem("app", token, v, 111, secret(3)), api.ErrCodeToken)
	b.want(rotate("app", text, nil, 111, secret(3)), api.ErrGrantToken)
	b.want(revoke("app", text, 111), api.OK)
	b.want(introspect(text, 111), api.OK)
	b.family(2, api.Active, 0)
	b.want(redeem("app", textOf("lkc_", 2, secret(2)), v, 111, secret(3)), api.ErrCodeToken) // the family's ID
	b.want(redeem("app", textOf("lkc_", 3, secret(2)), v, 111, secret(3)), api.ErrCodeToken) // the token's ID and secret
	b.family(2, api.Active, 0)
}

// C3: one second ahead of its Until, at it and behind it.
func TestRedeemUntil(t *testing.T) {
	for _, c := range []struct {
		now  int
		want api.Errno
	}{
		{least, api.OK}, {0, api.OK}, {99, api.OK}, {100, api.OK}, {101, api.OK}, {128, api.OK}, {129, api.OK},
		{130, api.ErrCodeToken}, {131, api.ErrCodeToken}, {1000, api.ErrCodeToken}, {lastTime, api.ErrCodeToken}, {most, api.ErrCodeToken},
	} {
		b, text := approved(t)
		b.want(redeem("app", text, v, c.now, secret(2)), c.want)
		if c.want != api.OK { // it is over, whatever the verifier and the next reading are
			b.want(redeem("app", text, w, 129, secret(2)), api.ErrCodeToken)
			b.want(redeem("app", text, "", 0, secret(2)), api.ErrCodeToken)
			b.want(redeem("app", text, v, 129, secret(2)), api.ErrCodeToken)
			if k, errno := b.x.Code(1); errno != api.OK || k.State != api.CodeFresh {
				t.Fatalf("%#v, %d", k, errno)
			}
		}
		b.reopen()
	}
}

// C3: that it was over is not noted: a table that is opened anew begins at the time of the last commit.
func TestRedeemOverNotesNothing(t *testing.T) {
	b, text := approved(t)
	b.want(redeem("app", text, v, 130, secret(2)), api.ErrCodeToken)
	b.reopen()
	b.want(redeem("app", text, v, 129, secret(2)), api.OK)
}

// C3: a verifier that is none, and another one's.
func TestRedeemVerifiers(t *testing.T) {
	b, text := approved(t)
	for _, s := range append(wrongVerifiers, w, longV, many(44, "v"), many(42, "v")+"w", "w"+many(42, "v"), many(43, "V"), ofV, digestOf(v), verifier(1), v+"\x00") {
		b.want(redeem("app", text, s, 110, secret(2)), api.ErrCodeVerify)
	}
	b.want(redeem("web", text, w, 110, secret(2)), api.ErrCodeToken)
	b.want(redeem("app", text, v, 110, secret(2)), api.OK)
	for n, s := range []string{v, w, longV, verifier(7), many(43, "~"), many(128, "."), many(100, "-_")[:100]} {
		own := b.gives(approve("web", fmt.Sprint("s", n), nil, challengeOf(s), 30, 110, secret(10+n)))
		for _, other := range []string{s[1:] + "x", "x" + s[1:]} {
			b.want(redeem("web", own, other, 111, secret(3)), api.ErrCodeVerify)
		}
		b.want(redeem("web", own, s, 111, secret(3)), api.OK)
	}
}

// C3, R6: a text whose digest was challenged is no verifier for that, if it may not be one.
func TestRedeemNoVerifier(t *testing.T) {
	b := newBoth(t)
	for n, s := range wrongVerifiers {
		text := b.gives(approve("app", "ann", nil, challengeOf(s), 5, 100+10*n, secret(n)))
		b.want(redeem("app", text, s, 100+10*n, secret(50)), api.ErrCodeVerify)
	}
}

// C3: a code that is Spent, shown by its client, with whatever verifier, at whatever time: its family ends, if it is Active, alive or not.
func TestRedeemAgain(t *testing.T) {
	for _, shown := range []string{v, w, "", "x", many(100000, "v")} {
		for _, now := range []int{least, 110, 111, 129, 130, 131, 159, 160, 161, 229, 230, 231, lastTime, most} {
			b, text := spent(t)
			b.want(redeem("app", text, shown, now, secret(3)), api.ErrCodeToken)
			at := min(max(now, 110), lastTime)
			b.family(2, api.Reused, at)
			b.event(api.EventReuse, 2, at, "app")
			if b.want(introspect(textOf("lkr_", 3, secret(2)), 0), api.OK).info.Active {
				t.Fatal("it is active")
			}
			b.want(rotate("app", textOf("lkr_", 3, secret(2)), nil, 0, secret(4)), api.ErrGrantToken)
			before := b.state()
			b.want(redeem("app", text, v, most, secret(5)), api.ErrCodeToken) // nothing is left to end
			b.family(2, api.Reused, at)
			if b.state() != before {
				t.Fatal("it did acts")
			}
			b.reopen()
		}
	}
}

// C3: a code that is Spent, whose family has ended in each way: nothing is changed.
func TestRedeemAgainEnded(t *testing.T) {
	token := textOf("lkr_", 3, secret(2))
	for n, c := range []struct {
		ends  []call
		state int
	}{
		{[]call{revoke("app", token, 120)}, api.Revoked},
		{[]call{revokeAll("ann", 120)}, api.Revoked},
		{[]call{rotate("app", token, nil, 160, secret(3))}, api.Expired},
		{[]call{rotate("app", token, nil, 111, secret(3)), rotate("app", token, nil, 121, secret(4))}, api.Reused},
	} {
		b, text := spent(t)
		for _, end := range c.ends {
			b.call(end)
		}
		f, errno := b.x.Family(2)
		if errno != api.OK || f.State != c.state {
			t.Fatalf("%d: the test is wrong: %#v, %d", n, f, errno)
		}
		for _, shown := range []string{v, ""} {
			b.want(redeem("app", text, shown, 200, secret(5)), api.ErrCodeToken)
			b.family(2, c.state, f.Ended)
		}
	}
}

// C3: the family that came of it has rotated since: it ends all the same, with all its tokens.
func TestRedeemAgainRotated(t *testing.T) {
	b, text := spent(t)
	token := textOf("lkr_", 3, secret(2))
	for n := range 5 {
		token = b.gives(rotate("app", token, nil, 120+n, secret(10+n)))
	}
	b.want(redeem("app", text, v, 125, secret(3)), api.ErrCodeToken)
	b.family(2, api.Reused, 125)
	b.want(rotate("app", token, nil, 125, secret(4)), api.ErrGrantToken)
}

// C3: a code that is Spent, whose family is gone: nothing is changed.
func TestRedeemAgainGone(t *testing.T) {
	b, text := spent(t)
	wantErrno(t, "Remove", b.x.Remove(2), api.OK)
	wantErrno(t, "Commit", b.x.Commit(), api.OK)
	for _, shown := range []string{v, w, ""} {
		b.wantRefused(redeem("app", text, shown, 115, secret(3)), api.ErrCodeToken)
	}
	wantErrno(t, "RemoveCode", b.x.RemoveCode(1), api.OK) // as a sweep will
	wantErrno(t, "Commit", b.x.Commit(), api.OK)
	b.wantRefused(redeem("app", text, v, 116, secret(3)), api.ErrCodeToken)
}

// C3: the other families of that subject and that client stay, and the other codes.
func TestRedeemAgainEndsThatOne(t *testing.T) {
	b, text := spent(t)
	b.want(issue("app", "ann", nil, 111, secret(10)), api.OK)
	other := b.code(30, 111, 11)
	b.want(redeem("app", other, v, 111, secret(12)), api.OK)
	b.want(redeem("app", text, v, 112, secret(13)), api.ErrCodeToken)
	b.family(2, api.Reused, 112)
	b.family(4, api.Active, 0)
	b.family(7, api.Active, 0)
	b.want(redeem("app", other, v, 113, secret(13)), api.ErrCodeToken)
	b.family(7, api.Reused, 113)
	b.family(4, api.Active, 0)
}

// C3: what Begin refuses: the code stays Fresh, and is good when that is over.
func TestRedeemClientOff(t *testing.T) {
	b, text := approved(t)
	b.want(turn("app", true, 101), api.OK)
	for range 2 {
		b.want(redeem("app", text, v, 102, secret(2)), api.ErrClientOff)
	}
	b.want(redeem("app", text, w, 102, secret(2)), api.ErrCodeVerify) // that is asked ahead
	b.want(redeem("web", text, v, 102, secret(2)), api.ErrCodeToken)
	b.want(turn("app", false, 103), api.OK)
	b.want(redeem("app", text, v, 104, secret(2)), api.OK)
	b.want(turn("app", true, 105), api.OK)
	b.want(redeem("app", text, v, 106, secret(2)), api.ErrCodeToken) // whether it is off is not asked of a code that is Spent
	b.family(2, api.Reused, 106)
}

func TestRedeemScopeGone(t *testing.T) {
	b, text := approved(t)
	all := b.gives(approve("app", "ann", nil, ofV, 30, 100, secret(5)))
	b.change("app", func(c *api.Client) { c.Scope = names("write") })
	for range 2 {
		b.want(redeem("app", text, v, 110, secret(2)), api.ErrGrantScope)
		b.want(redeem("app", all, v, 110, secret(2)), api.ErrGrantScope)
		b.want(redeem("app", all, w, 110, secret(2)), api.ErrCodeVerify)
	}
	b.change("app", func(c *api.Client) { c.Scope = names("more", "read") })
	if a := b.want(redeem("app", text, v, 110, secret(2)), api.OK).issued; !slices.Equal(a.Scope, names("read")) {
		t.Fatalf("%#v", a)
	}
	b.want(redeem("app", all, v, 110, secret(2)), api.ErrGrantScope)
}

// C3: a code that has no names asks for what Begin gives then: all that the client may do.
func TestRedeemNoNames(t *testing.T) {
	bare := someClient("bare")
	bare.Scope = nil
	b := founded(t, 128, 1, 0, bare)
	one := b.gives(approve("bare", "ann", nil, ofV, 30, 100, secret(1)))
	two := b.gives(approve("bare", "ann", nil, ofV, 30, 100, secret(2)))
	if a := b.want(redeem("bare", one, v, 101, secret(3)), api.OK).issued; len(a.Scope) != 0 {
		t.Fatalf("%#v", a)
	}
	b.change("bare", func(c *api.Client) { c.Scope = names("later") })
	if a := b.want(redeem("bare", two, v, 102, secret(3)), api.OK).issued; !slices.Equal(a.Scope, names("later")) {
		t.Fatalf("%#v", a)
	}
}

// C3: the client's numbers are those of the time at which it redeems.
func TestRedeemClientChanged(t *testing.T) {
	b, text := approved(t)
	b.change("app", func(c *api.Client) { c.Idle, c.Absolute, c.Grace, c.Life = 7, 8, 0, 9 })
	if a := b.want(redeem("app", text, v, 110, secret(2)), api.OK).issued; a.Life != 9 {
		t.Fatalf("%#v", a)
	}
	b.family(2, api.Active, 0)
}

// C3: the fifth family of a subject that is alive, of whatever came the others.
func TestRedeemMany(t *testing.T) {
	b := newBoth(t)
	var texts []string
	for n := range 6 {
		texts = append(texts, b.gives(approve([]string{"app", "web"}[n%2], "ann", nil, ofV, 80, 100, secret(n))))
	}
	shows := func(n, now int, want api.Errno) {
		t.Helper()
		b.want(redeem([]string{"app", "web"}[n%2], texts[n], v, now, secret(20+n)), want)
	}
	shows(0, 110, api.OK)
	b.want(issue("web", "ann", nil, 111, secret(30)), api.OK)
	shows(1, 112, api.OK)
	shows(2, 113, api.OK)
	for range 2 {
		shows(3, 114, api.ErrGrantMany)
		shows(4, 114, api.ErrGrantMany)
	}
	bob := b.gives(approve("app", "bob", nil, ofV, 30, 114, secret(40)))
	b.want(redeem("app", bob, v, 114, secret(41)), api.OK)
	b.want(redeem("web", texts[3], w, 114, secret(41)), api.ErrCodeVerify)
	shows(0, 115, api.ErrCodeToken) // shown again: one has ended
	shows(3, 115, api.OK)
	shows(4, 115, api.ErrGrantMany)
	shows(4, 160, api.ErrGrantMany) // those of 111, 112, 113 and 115
	shows(4, 163, api.OK)           // that of 113 is over
	shows(5, 163, api.OK)           // so are those of 111 and 112
}

// C3: two IDs are left, one, none; a number for the event, and none: the code stays Fresh.
func TestRedeemWorn(t *testing.T) {
	for _, c := range []struct {
		next, base int // ahead of the code
		want       api.Errno
	}{
		{lastID - 3, 0, api.OK}, {lastID - 2, 0, api.OK}, {lastID - 1, 0, api.ErrTableWorn}, {lastID, 0, api.ErrTableWorn},
		{1, lastID - 3, api.OK}, {1, lastID - 2, api.OK}, {1, lastID - 1, api.ErrTableWorn},
		{lastID - 2, lastID - 2, api.OK}, {lastID - 1, lastID - 2, api.ErrTableWorn}, {lastID - 2, lastID - 1, api.ErrTableWorn}, {lastID, lastID - 1, api.ErrTableWorn},
	} {
		b := founded(t, 64, c.next, c.base, three()...)
		text := b.gives(approve("app", "ann", nil, ofV, 30, 100, secret(1)))
		b.want(redeem("app", text, w, 101, secret(2)), api.ErrCodeVerify)
		b.want(redeem("app", text, v, 101, secret(2)), c.want)
		if c.want != api.OK {
			b.want(redeem("app", text, v, 101, secret(2)), c.want)
			if k, errno := b.x.Code(c.next); errno != api.OK || k.State != api.CodeFresh || k.Family != 0 {
				t.Fatalf("%#v, %d", k, errno)
			}
		}
	}
}

// C3: no number is left for the event of a code that is shown again: that error, and the family stays.
func TestRedeemAgainWorn(t *testing.T) {
	for base, want := range map[int]api.Errno{lastID - 3: api.ErrCodeToken, lastID - 2: api.ErrTableWorn} {
		b := founded(t, 64, 1, base, three()...)
		text := b.gives(approve("app", "ann", nil, ofV, 30, 100, secret(1)))
		b.want(redeem("app", text, v, 101, secret(2)), api.OK)
		for range 2 {
			b.want(redeem("app", text, "", 102, secret(2)), want)
		}
		if f, errno := b.x.Family(2); errno != api.OK || (f.State == api.Active) != (want == api.ErrTableWorn) {
			t.Fatalf("%#v, %d", f, errno)
		}
	}
}

// C3: at the time's end a code is over at once; one that was given ahead of it is good up to it.
func TestRedeemAtTheLastTime(t *testing.T) {
	b := newBoth(t)
	text := b.gives(approve("app", "ann", nil, ofV, most, lastTime-2, secret(1)))
	early := b.gives(approve("app", "ann", nil, ofV, 1, lastTime-2, secret(2)))
	b.want(redeem("app", early, v, lastTime-1, secret(3)), api.ErrCodeToken)
	b.want(redeem("app", text, v, lastTime-1, secret(3)), api.OK)
	b.want(redeem("app", text, v, most, secret(3)), api.ErrCodeToken)
	b.family(3, api.Reused, lastTime)
	b.want(redeem("app", b.gives(approve("app", "ann", nil, ofV, most, most, secret(4))), v, 0, secret(5)), api.ErrCodeToken)
}

// R6: a text is taken for the one that was minted if its digest is that one's, whoever laid the record.
func TestRedeemLaidByOthers(t *testing.T) {
	b := founded(t, 64, 100, 0, three()...)
	text := textOf("lkc_", 7, many(24, "\x01"))
	k := api.Code{ID: 7, Client: "app", Subject: "ann", Scope: names("write"), Hash: digestOf(text), Challenge: digestOf(longV), Until: 50, State: api.CodeFresh}
	wantErrno(t, "PutCode", b.x.PutCode(k), api.OK)
	wantErrno(t, "Commit", b.x.Commit(), api.OK)
	if a, errno := code.Redeem(b.x, "app", text, longV, 49, secret(1)); errno != api.OK || a.Family != 100 || !slices.Equal(a.Scope, names("write")) {
		t.Fatalf("%#v, %d", a, errno)
	}
	k.State, k.Family = api.CodeSpent, 100
	b.codes(k)
}
