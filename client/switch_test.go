package client_test

import (
	"testing"

	"latchkey/api"
	"latchkey/client"
)

// C3: on, off, and each twice.
func TestSwitch(t *testing.T) {
	for _, public := range []bool{false, true} {
		b := newBoth(t, 64)
		c, secret := app(), p
		if c.Public = public; public {
			secret = ""
		}
		b.want(register(c, secret, 100), api.OK)
		events := 1
		for n, off := range []bool{false, true, true, true, false, false, true, false} {
			if b.b.clients["app"].client.Off != off {
				events++
			}
			b.want(turn("app", off, 100+n), api.OK)
			if len(b.b.events) != events {
				t.Fatalf("%d events, want %d", len(b.b.events), events)
			}
			b.want(ask("app", secret, 100+n), map[bool]api.Errno{false: api.OK, true: api.ErrClientOff}[off])
		}
		b.reopen()
	}
}

// C3: a switch that changes nothing notes no time either, but the clock has seen its reading.
func TestSwitchSame(t *testing.T) {
	b := withApp(t)
	b.want(turn("app", false, 500), api.OK)
	if b.x.Now() != 500 {
		t.Fatalf("the time is %d", b.x.Now())
	}
	b.reopen()
	if b.x.Now() != 100 {
		t.Fatalf("the time is %d", b.x.Now())
	}
}

// C3: nobody, and a dead disk ahead of that.
func TestSwitchErrors(t *testing.T) {
	b := withApp(t)
	names := append([]string{"nobody", "ap", "app2", "pp", "app.", "-app"}, wrongNames()...)
	for _, off := range []bool{false, true} {
		for _, name := range names {
			wantErrno(t, "nobody", client.Switch(b.x, name, off, 100), api.ErrClientNone)
		}
	}
	b.look("nobody")
	dead := func() {
		for _, off := range []bool{false, true} {
			for _, name := range append(names[:20:20], "app") {
				b.wantDead(turn(name, off, 100))
			}
		}
	}
	kill(t, b.d)
	dead()
	wantErrno(t, "Crash", b.d.Crash(nil), api.OK)
	dead()
}

// C3: what it has of its secrets stays, and all else of it.
func TestSwitchKeepsSecrets(t *testing.T) {
	b := newBoth(t, 64)
	b.want(register(greatest("app"), p, 100), api.OK)
	name := greatest("app").Name
	b.want(renew(name, q, 30, 100), api.OK)
	b.want(turn(name, true, 110), api.OK)
	b.want(turn(name, false, 120), api.OK)
	b.want(ask(name, p, 129), api.OK)
	b.want(ask(name, p, 130), api.ErrClientSecret)
	b.want(ask(name, q, 130), api.OK)
}
