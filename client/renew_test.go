package client_test

import (
	"fmt"
	"testing"

	"latchkey/api"
	"latchkey/client"
)

// C2: passwords that are none are told ahead of all else, a dead disk ahead of nobody, nobody ahead of a public one.
func TestRenewErrors(t *testing.T) {
	b := withApp(t)
	b.want(register(publicClient("web"), "", 100), api.OK)
	names := append([]string{"app", "web", "nobody"}, wrongNames()...)
	all := func(what string) {
		for _, secret := range append(wrongPasswords(), "") {
			for _, name := range names[:5] {
				wantErrno(t, what, client.Renew(b.x, name, secret, 10, 100), api.ErrClientField)
			}
		}
	}
	all("a secret that is none")
	b.look("secrets that are none")
	b.want(renew("web", q, 10, 100), api.ErrClientField)
	b.want(renew("web", p, 0, 100), api.ErrClientField)
	for _, name := range names[2:] {
		wantErrno(t, "nobody", client.Renew(b.x, name, q, 10, 100), api.ErrClientNone)
	}
	b.look("nobody")
	kill(t, b.d)
	all("dead")
	for _, name := range names {
		b.wantDead(renew(name, q, 10, 100))
	}
	wantErrno(t, "Crash", b.d.Crash(nil), api.OK)
	all("in doubt")
	b.wantDead(renew("app", q, 10, 100))
	b.wantDead(renew("APP", q, 10, 100))
}

// C2: each password that may be.
func TestRenewPasswords(t *testing.T) {
	b := withApp(t)
	for _, secret := range rightPasswords() {
		b.want(renew("app", secret, 10, 100), api.OK)
		b.want(ask("app", secret, 100), api.OK)
	}
}

// C2: how long the one ahead counts: a keep below 0, none, and such as would be too much.
func TestRenewKeep(t *testing.T) {
	for _, x := range []struct{ now, keep, until int }{
		{200, 30, 230}, {200, 1, 201}, {200, 0, 200}, {200, -1, 200}, {200, -150, 200}, {200, least, 200}, {200, least + 1, 200},
		{200, lastTime - 201, lastTime - 1}, {200, lastTime - 200, lastTime}, {200, lastTime - 199, lastTime}, {200, lastTime, lastTime}, {200, most, lastTime},
		{lastTime - 1, 1, lastTime}, {lastTime - 1, 2, lastTime}, {lastTime - 1, 0, lastTime - 1}, {lastTime, 0, lastTime}, {lastTime, 1, lastTime},
		{lastTime, most, lastTime}, {lastTime, least, lastTime}, {most, most, lastTime}, {most, least, lastTime}, {most, 5, lastTime},
		{100, 5, 105}, {99, 5, 105}, {0, 5, 105}, {-1, 5, 105}, {least, 5, 105}, {least, least, 100}, {least, most, lastTime}, // the time is 100 ahead of it
	} {
		b := withApp(t)
		b.want(renew("app", q, x.keep, x.now), api.OK)
		c, errno := b.x.Client("app")
		if errno != api.OK || c.Until != x.until || c.Old != digestOf(p) || c.Hash != digestOf(q) {
			t.Fatalf("Renew by %d at %d: %#v, %d", x.keep, x.now, c, errno)
		}
		old := map[bool]api.Errno{false: api.ErrClientSecret, true: api.OK}
		b.want(ask("app", p, least), old[b.b.now < x.until])
		if x.until > 0 {
			b.want(ask("app", p, x.until-1), old[b.b.now < x.until])
		}
		b.want(ask("app", p, x.until), api.ErrClientSecret)
		b.want(ask("app", q, x.until), api.OK)
		b.want(ask("app", p, most), api.ErrClientSecret)
		b.want(ask("app", q, most), api.OK)
	}
}

// C2: a second one ahead of the first one's Until: what was Old ahead of that counts no more.
func TestRenewAgain(t *testing.T) {
	b := withApp(t)
	b.want(renew("app", q, 1000, 200), api.OK)
	b.want(ask("app", p, 201), api.OK)
	b.want(renew("app", r, 10, 202), api.OK)
	b.want(ask("app", p, 202), api.ErrClientSecret)
	b.want(ask("app", q, 202), api.OK)
	b.want(ask("app", q, 211), api.OK)
	b.want(ask("app", q, 212), api.ErrClientSecret)
	b.want(renew("app", q, 0, 213), api.OK)
	b.want(ask("app", r, 213), api.ErrClientSecret)
	b.want(ask("app", q, 213), api.OK)
	b.reopen()
	b.want(ask("app", q, 213), api.OK)
}

// C2: the same password once more is given like any other one, also if the record is the same then: each is a commit with its event.
func TestRenewSame(t *testing.T) {
	b := withApp(t)
	for n := range 5 {
		b.want(renew("app", p, 30, 200), api.OK)
		if len(b.b.events) != n+2 {
			t.Fatalf("%d events", len(b.b.events))
		}
	}
	b.want(ask("app", p, 1000), api.OK)
	b.want(renew("app", q, 30, 1000), api.OK)
	b.want(ask("app", p, 1029), api.OK)
	b.want(ask("app", p, 1030), api.ErrClientSecret)
}

// C2: it is renewed while it is off, and stays so; and all other clients are as they were.
func TestRenewOthersStay(t *testing.T) {
	b := newBoth(t, 64)
	for n := range 8 {
		b.want(register(greatest(fmt.Sprint("c", n)), p, 5), api.OK)
	}
	b.want(turn(greatest("c3").Name, true, 6), api.OK)
	b.want(renew(greatest("c3").Name, q, 10, 7), api.OK)
	b.want(ask(greatest("c3").Name, q, 7), api.ErrClientOff)
	b.want(renew(greatest("c4").Name, r, 10, 7), api.OK)
	b.want(turn(greatest("c3").Name, false, 8), api.OK)
	b.want(ask(greatest("c3").Name, p, 16), api.OK)
	b.want(ask(greatest("c3").Name, r, 16), api.ErrClientSecret)
	b.want(ask(greatest("c4").Name, p, 17), api.ErrClientSecret)
	b.want(ask(greatest("c5").Name, p, 17), api.OK)
	b.reopen()
}
