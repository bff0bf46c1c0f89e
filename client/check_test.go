package client_test

import (
	"testing"

	"latchkey/api"
	"latchkey/client"
)

// C4: each error, ahead of those behind it.
func TestCheckErrors(t *testing.T) {
	b := withApp(t)
	b.want(register(publicClient("web"), "", 100), api.OK)
	b.want(register(someClient("off"), p, 100), api.OK)
	b.want(register(publicClient("weboff"), "", 100), api.OK)
	b.want(turn("off", true, 100), api.OK)
	b.want(turn("weboff", true, 100), api.OK)
	for _, x := range []struct {
		name, secret string
		want         api.Errno
	}{
		{"app", p, api.OK}, {"app", q, api.ErrClientSecret}, {"app", "", api.ErrClientSecret}, {"app", p[1:], api.ErrClientSecret}, {"app", p + "p", api.ErrClientSecret},
		{"app", many(1<<16, "p"), api.ErrClientSecret}, {"app", digestOf(p), api.ErrClientSecret}, {"app", p + "\x00", api.ErrClientSecret}, {"app", many(16, "P"), api.ErrClientSecret},
		{"web", "", api.OK}, {"web", p, api.ErrClientSecret}, {"web", "x", api.ErrClientSecret}, {"web", "\x00", api.ErrClientSecret},
		{"off", p, api.ErrClientOff}, {"off", q, api.ErrClientOff}, {"off", "", api.ErrClientOff},
		{"weboff", "", api.ErrClientOff}, {"weboff", p, api.ErrClientOff},
		{"nobody", p, api.ErrClientNone}, {"nobody", "", api.ErrClientNone}, {"ap", p, api.ErrClientNone}, {"app2", p, api.ErrClientNone}, {"pp", p, api.ErrClientNone},
	} {
		b.want(ask(x.name, x.secret, 100), x.want)
	}
	for _, name := range wrongNames() {
		if c, errno := client.Check(b.x, name, p, 100); errno != api.ErrClientNone || !sameClient(c, api.Client{}) {
			t.Fatalf("%.30q: %#v, %d", name, c, errno)
		}
	}
	b.look("nobody")
	dead := func() {
		for _, name := range append(wrongNames()[:20:20], "app", "web", "off", "nobody") {
			for _, secret := range []string{p, q, ""} {
				b.wantDead(ask(name, secret, 100))
			}
		}
	}
	kill(t, b.d)
	dead()
	wantErrno(t, "Crash", b.d.Crash(nil), api.OK)
	dead()
	b.reopen()
	b.want(ask("app", p, 100), api.OK)
}

// C4: the old secret one second ahead of Until, at it and behind it, whatever the readings are.
func TestCheckOld(t *testing.T) {
	b := withApp(t)
	b.want(renew("app", q, 30, 200), api.OK)
	for _, x := range []struct {
		now  int
		want api.Errno
	}{
		{200, api.OK}, {0, api.OK}, {least, api.OK}, {228, api.OK}, {229, api.OK}, {-5, api.OK}, {229, api.OK},
		{230, api.ErrClientSecret}, {229, api.ErrClientSecret}, {0, api.ErrClientSecret}, {least, api.ErrClientSecret}, {231, api.ErrClientSecret}, {most, api.ErrClientSecret}, {200, api.ErrClientSecret},
	} {
		b.want(ask("app", p, x.now), x.want)
		b.want(ask("app", q, x.now), api.OK)
		b.want(ask("app", r, x.now), api.ErrClientSecret)
	}
}

// C4, R5: a Check notes no time: a table that is opened anew begins at the last commit's, so the old secret counts again.
func TestCheckNotesNothing(t *testing.T) {
	b := withApp(t)
	b.want(renew("app", q, 30, 200), api.OK)
	b.want(ask("app", p, 230), api.ErrClientSecret)
	b.reopen()
	b.want(ask("app", p, 229), api.OK)
	b.want(turn("app", true, 230), api.OK)
	b.want(turn("app", false, 0), api.OK)
	b.reopen()
	b.want(ask("app", p, 229), api.ErrClientSecret)
}

// R5: each call shows its reading to the clock, whatever it answers.
func TestReadings(t *testing.T) {
	b := withApp(t)
	bad := app()
	bad.Name = "App"
	now := 100
	for _, c := range []func(now int) call{
		func(now int) call { return register(bad, p, now) },
		func(now int) call { return register(app(), p, now) },
		func(now int) call { return register(publicClient("web"), "", now) },
		func(now int) call { return renew("app", "x", 0, now) },
		func(now int) call { return renew("App", p, 0, now) },
		func(now int) call { return renew("web", p, 0, now) },
		func(now int) call { return renew("app", p, 0, now) },
		func(now int) call { return turn("App", true, now) },
		func(now int) call { return turn("app", false, now) },
		func(now int) call { return turn("web", true, now) },
		func(now int) call { return ask("App", p, now) },
		func(now int) call { return ask("web", p, now) },
		func(now int) call { return ask("app", q, now) },
		func(now int) call { return ask("app", p, now) },
	} {
		now += 10
		b.call(c(now))
		if b.x.Now() != now {
			t.Fatalf("%s: the time is %d", c(now).what, b.x.Now())
		}
		for _, reading := range []int{now - 1, 0, -1, least} {
			b.call(c(reading))
		}
	}
	kill(t, b.d)
	for n, c := range []call{register(app(), p, now+1), register(bad, p, now+2), renew("app", p, 0, now+3), renew("app", "", 0, now+4), turn("app", true, now+5), ask("app", p, now+6), ask("", p, now+7)} {
		if c.do(b.x); b.x.Now() != now+1+n {
			t.Fatalf("%s, dead: the time is %d", c.what, b.x.Now())
		}
	}
	b.x.See(most)
	if client.Check(b.x, "app", p, least); b.x.Now() != lastTime {
		t.Fatalf("the time is %d", b.x.Now())
	}
}

// R6: a text is taken for the secret if its digest is that one's, whoever laid the record, and whether it could be a password or not.
func TestCheckDigests(t *testing.T) {
	_, x := began(t, 16)
	c := app()
	c.Hash, c.Old, c.Until = digestOf(""), digestOf("short"), lastTime
	wantErrno(t, "PutClient", x.PutClient(c), api.OK)
	wantErrno(t, "Commit", x.Commit(), api.OK)
	for _, s := range []struct {
		secret string
		now    int
		want   api.Errno
	}{
		{"", 0, api.OK}, {"short", 0, api.OK}, {digestOf(""), 0, api.ErrClientSecret}, {p, 0, api.ErrClientSecret},
		{"short", lastTime - 1, api.OK}, {"short", lastTime, api.ErrClientSecret}, {"short", most, api.ErrClientSecret}, {"", most, api.OK},
	} {
		got, errno := client.Check(x, "app", s.secret, s.now)
		if errno != s.want || s.want == api.OK && !sameClient(got, c) || s.want != api.OK && !sameClient(got, api.Client{}) {
			t.Fatalf("%q at %d: %#v, %d", s.secret, s.now, got, errno)
		}
	}
}
