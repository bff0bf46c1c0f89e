package access_test

import (
	"testing"

	"latchkey/access"
	"latchkey/api"
	"latchkey/client"
	"latchkey/grant"
	"latchkey/sweep"
)

// homely is a table at 20 with the key 3 of the example, and its family 1, which ends at 60.
func homely(t *testing.T, more ...lay) *both {
	t.Helper()
	return founded(t, 64, 0, append([]lay{laySee(20), layKey(three()), layFamily(family(1))}, more...)...)
}

// A6: what is told of a token that is worth something.
func TestWorth(t *testing.T) {
	b := homely(t)
	want := api.Info{Active: true, Client: "app", Subject: "ann", Scope: names("read"), Family: 1, Issued: 20, End: 40}
	for _, now := range []int{least, 0, 19, 20, 21, 39} { // the time is 20 ahead of them
		if i, errno := access.Worth(b.x, "home", example, now); !sameInfo(i, want) || errno != api.OK {
			t.Fatalf("Worth at %d: %#v, %d", now, i, errno)
		}
		b.e.see(now)
		if !b.worth("home", example, now) {
			t.Fatalf("at %d", now)
		}
	}
	for _, now := range []int{40, 41, 30} {
		if b.worth("home", example, now) {
			t.Fatalf("at %d", now)
		}
	}
	b.look("behind all")
}

// A6: what the claims say is told, not what the family has: also if it has another client, subject and scope.
func TestWorthClaims(t *testing.T) {
	f := family(1)
	f.Client, f.Subject, f.Scope = "web", "bob", nil
	b := homely(t, layFamily(f))
	if !b.worth("home", example, 20) {
		t.Fatal("it is worth nothing")
	}
	c := claims()
	c.Client, c.Subject, c.Scope = many(16, "c"), many(16, "s"), eight()
	c.Number, c.End = lastNumber, lastTime
	if !b.worth("home", tokenOf(3, three().Secret, "home", c), 59) {
		t.Fatal("it is worth nothing")
	}
	c.Scope = nil
	if !b.worth("home", tokenOf(3, three().Secret, "home", c), 59) {
		t.Fatal("it is worth nothing")
	}
}

// A6: what Verify refuses for each of its reasons is worth nothing, and is no error.
func TestWorthNothing(t *testing.T) {
	b := homely(t, laySee(21), layKey(api.Key{Number: 4, Secret: secret(4), From: 21, Until: lastTime}), layKey(api.Key{Number: 5, Secret: secret(5), From: 0, Until: 25}))
	for _, c := range []struct{ issuer, s string }{
		{"home", ""}, {"home", "x"}, {"home", ".."}, {"home", example + "."}, {"home", example[1:]}, {"home", many(1<<16, ".")}, {"work", example}, {"", example}, {"Home", example}, {many(1<<16, "h"), example},
		{"home", tokenOf(6, three().Secret, "home", claims())}, // of a key that is not there
		{"home", tokenOf(4, secret(4), "home", claims())},      // of one that did not sign then
		{"home", tokenOf(3, secret(4), "home", claims())},      // of another Secret
		{"home", tokenOf(3, "", "home", claims())},
		{"home", tokenOf(3, three().Secret, "work", claims())},
	} {
		if b.worth(c.issuer, c.s, 21) {
			t.Fatalf("Worth(%q, %q)", c.issuer, c.s)
		}
	}
	short := tokenOf(5, secret(5), "home", claims())
	if !b.worth("home", short, 24) || b.worth("home", short, 25) || !b.worth("home", example, 25) {
		t.Fatal("the key 5 counts up to 25")
	}
	b.look("behind all")
}

// A6: a family that is not there, has ended, is idle, or too old; and none of the greatest ID that claims can say.
func TestWorthFamilies(t *testing.T) {
	of := func(id int) string {
		c := claims()
		c.Family, c.End = id, 1000
		k := three()
		return tokenOf(k.Number, k.Secret, "home", c)
	}
	ended, idle, old, last := family(11), family(13), family(15), family(lastNumber)
	ended.State, ended.Ended = api.Revoked, 20
	idle.Idle = 10
	old.Idle, old.Absolute = 80, 15
	b := homely(t, layFamily(ended), layFamily(idle), layFamily(old), layFamily(last))
	for _, now := range []int{20, 29, 30, 34, 35, 59, 60} {
		for id, end := range map[int]int{1: 60, 2: 0, 11: 0, 12: 0, 13: 30, 15: 35, lastNumber: 60, lastNumber - 1: 0} {
			if is := b.worth("home", of(id), now); is != (now < end) {
				t.Fatalf("the family %d at %d: %v", id, now, is)
			}
		}
	}
}

// asked is the table of the layers below: what it has is told anew each time.
func (b *both) asked() *both {
	b.t.Helper()
	b.e = toldOf(b.t, b.x)
	return b
}

// A6, P4: a family that the layers below have begun, until it ended in each way, and behind a sweep; and opened anew.
func TestWorthEnds(t *testing.T) {
	for n, end := range []func(b *both, a api.Issued) api.Errno{
		func(b *both, a api.Issued) api.Errno { return grant.Revoke(b.x, "app", a.Token, 110) },
		func(b *both, a api.Issued) api.Errno {
			_, errno := grant.RevokeAll(b.x, "ann", 110)
			return errno
		},
		func(b *both, a api.Issued) api.Errno { // shown again, too late
			_, errno := grant.Rotate(b.x, "app", a.Token, nil, 109, secret(5))
			wantErrno(t, "Rotate", errno, api.OK)
			_, errno = grant.Rotate(b.x, "app", a.Token, nil, 119, secret(6))
			wantErrno(t, "Rotate again", errno, api.ErrGrantToken)
			return api.OK
		},
	} {
		b := founded(t, 64, 0, layClient(app()))
		b.makes(1, secret(1), 1000, 50)
		a, errno := grant.Issue(b.x, "app", "ann", nil, 100, secret(2))
		wantErrno(t, "Issue", errno, api.OK)
		c := claims()
		c.Family, c.Issued, c.End = a.Family, 100, 500
		s := tokenOf(1, secret(1), "home", c)
		if !b.asked().worth("home", s, 109) {
			t.Fatalf("%d: it is alive", n)
		}
		wantErrno(t, "the end", end(b, a), api.OK)
		for _, now := range []int{0, 110, 111, 499} {
			if b.asked().worth("home", s, now) {
				t.Fatalf("%d: it has ended", n)
			}
		}
		wantErrno(t, "Verify", wantVerify(t, b.e.keys, "home", s, 110), api.OK) // whoever asks nobody lets it in
		b.reopen()
		if b.worth("home", s, 110) {
			t.Fatalf("%d: it has ended, and it was opened anew", n)
		}
		swept, errno := sweep.Run(b.x, 0, 16, 120)
		if wantErrno(t, "Run", errno, api.OK); swept.Families != 1 || b.asked().worth("home", s, 120) {
			t.Fatalf("%d: it was swept", n)
		}
	}
}

// A6: it lives as long as somebody shows its refresh tokens, up to its age.
func TestWorthRotated(t *testing.T) {
	b := founded(t, 64, 0, layClient(app()))
	b.makes(1, secret(1), 1000, 50)
	a, errno := grant.Issue(b.x, "app", "ann", nil, 100, secret(2))
	c := claims()
	c.Family, c.Issued, c.End = a.Family, 100, 500
	s := tokenOf(1, secret(1), "home", c)
	for n, now := range []int{149, 198, 219} {
		wantErrno(t, "what is shown", errno, api.OK)
		if !b.asked().worth("home", s, now) {
			t.Fatalf("at %d", now)
		}
		a, errno = grant.Rotate(b.x, "app", a.Token, nil, now, secret(3+n))
	}
	if b.asked().worth("home", s, 220) {
		t.Fatal("it is too old")
	}
}

// A6: of a client that is switched off it is worth what it was: that is not asked.
func TestWorthOff(t *testing.T) {
	b := homely(t, layClient(app()))
	wantErrno(t, "Switch", client.Switch(b.x, "app", true, 20), api.OK)
	if !b.asked().worth("home", example, 20) {
		t.Fatal("it is worth nothing")
	}
}

// A6, A5: of keys that are renewed: what an old one signed counts for keep behind the next one, and what is taken away signs for nobody.
func TestWorthRenewed(t *testing.T) {
	f := family(1)
	f.Idle, f.Absolute = 10000, 10000
	b := founded(t, 64, 0, laySee(20), layFamily(f))
	sign := func(issued int) string {
		k, is := access.Current(b.e.keys, issued)
		c := claims()
		if c.Issued, c.End = issued, 9000; !is {
			t.Fatal("no key signs")
		}
		return wantSign(t, k, "home", c)
	}
	b.makes(1, secret(1), 0, 20)
	one := sign(20)
	b.makes(2, secret(2), 30, 50)
	two := sign(50)
	for _, now := range []int{50, 79} {
		if !b.worth("home", one, now) || !b.worth("home", two, now) {
			t.Fatalf("at %d", now)
		}
	}
	for _, now := range []int{80, 81} {
		if b.worth("home", one, now) || !b.worth("home", two, now) {
			t.Fatalf("at %d", now)
		}
	}
	b.makes(3, secret(3), 0, 100)
	wantUntils(t, b, 2, 100, lastTime)
	if b.worth("home", one, 100) || b.worth("home", two, 100) || !b.worth("home", sign(100), 100) {
		t.Fatal("only the last one counts")
	}
	b.makes(4, secret(4), 5, 101)
	wantUntils(t, b, 3, 106, lastTime)
	b.reopen()
	if b.worth("home", two, 101) {
		t.Fatal("the key 2 is gone")
	}
}

// A6: a dead disk, and one in doubt, are told whatever the text is; R5: and the clock has seen the reading.
func TestWorthDead(t *testing.T) {
	b := homely(t)
	texts := []string{example, "", "x", tokenOf(9, secret(1), "home", claims()), many(1<<16, "A")}
	kill(t, b.d)
	for n, s := range texts {
		b.dead(s, 25+n)
	}
	wantErrno(t, "Crash", b.d.Crash(nil), api.OK)
	for n, s := range texts {
		b.dead(s, 30+n)
	}
	b.reopen()
	if !b.worth("home", example, 20) {
		t.Fatal("it is worth nothing")
	}
}

// A6: it changes nothing, whatever it is asked: neither what the table has nor what stands on its disk.
func TestWorthChangesNothing(t *testing.T) {
	b := homely(t, layFamily(family(3)), layClient(app()))
	for _, now := range []int{least, 20, 39, 40, 60, 1000, most} {
		for _, s := range []string{example, "", "x", tokenOf(3, secret(1), "home", claims())} {
			b.worth("home", s, now)
			b.look("behind Worth")
		}
	}
	b.reopen()
	if b.x.Now() != 20 {
		t.Fatalf("the time is %d", b.x.Now())
	}
}
