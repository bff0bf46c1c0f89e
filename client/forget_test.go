package client_test

import (
	"testing"

	"latchkey/api"
	"latchkey/table"
	"latchkey/trail"
)

// someBegun are things that somebody may have begun on a table.
func someBegun(t *testing.T) []func(x *table.Table) {
	ok := func(errno api.Errno) {
		t.Helper()
		wantErrno(t, "what is begun", errno, api.OK)
	}
	client := func(c api.Client) func(x *table.Table) {
		return func(x *table.Table) { ok(x.PutClient(c)) }
	}
	off := kept(app(), q)
	off.Off = true
	l := []func(x *table.Table){
		client(kept(app(), q)), client(off), client(publicClient("app")), client(kept(someClient("new"), p)), client(publicClient("new")),
		func(x *table.Table) {
			for _, name := range []string{"a", "b", "c", "d", "e", "f", "g", "h", "i"} {
				client(publicClient(name))(x)
			}
		},
		func(x *table.Table) { _, errno := x.ID(); ok(errno) },
		func(x *table.Table) {
			for range 40 {
				trail.Note(x, api.EventClient, 0, "app") // as many as there are numbers left
			}
		},
		func(x *table.Table) {
			ok(x.PutChain(api.Chain{Base: lastID, Next: lastID + 1, BaseHash: digestOf("a"), NextHash: digestOf("b")}))
		},
		func(x *table.Table) { ok(x.PutKey(api.Key{Number: 7, Secret: many(24, "s"), Until: 5})) },
		func(x *table.Table) {
			ok(x.PutFamily(api.Family{ID: 1, Client: "app", Subject: "ann", Idle: 1, Absolute: 1, Gen: 1, Token: 2, State: api.Active}))
			ok(x.PutToken(api.Token{ID: 2, Family: 1, Gen: 1, Hash: digestOf("t")}))
		},
	}
	return append(l, func(x *table.Table) {
		for _, begin := range l {
			begin(x)
		}
	})
}

// R4: what somebody has begun and not committed is forgotten ahead of each of the four calls, whatever these answer.
func TestForgetsWhatWasBegun(t *testing.T) {
	bad := someClient("new")
	bad.Life = 0
	calls := []call{
		register(bad, p, 300), register(app(), p, 300), register(someClient("new"), q, 300), register(publicClient("new"), "", 300),
		renew("app", "x", 5, 300), renew("new", p, 5, 300), renew("App", p, 5, 300), renew("app", q, 5, 300), renew("web", q, 5, 300),
		turn("new", true, 300), turn("", true, 300), turn("app", false, 300), turn("app", true, 300), turn("web", true, 300),
		ask("new", p, 300), ask("new", "", 300), ask("\x00", "", 300), ask("app", q, 300), ask("app", "", 300), ask("app", p, 300), ask("web", "", 300),
	}
	for _, c := range calls {
		for _, begin := range someBegun(t) {
			b := withApp(t)
			b.want(register(publicClient("web"), "", 100), api.OK)
			b.x.See(200)
			b.b.see(200)
			begin(b.x)
			b.call(c)
			b.reopen()
		}
	}
}

// R4: it is forgotten by calls that have no room, or no number, too.
func TestForgetsAndRefuses(t *testing.T) {
	l := append(three(), kept(greatest("c1"), p), kept(greatest("c2"), p), kept(greatest("c3"), p))
	for _, c := range changes() {
		for _, begin := range someBegun(t) {
			for _, x := range []struct {
				base, generation int
				want             api.Errno
			}{{7, 2, api.ErrPagerFull}, {lastID - 32, 2, api.ErrTableWorn}, {7, worn, api.ErrPagerFull}} {
				d := aged(t, tight(t, x.base, 32, l...), x.generation)
				table := opened(t, d)
				was := told(t, table)
				begin(table)
				_, errno := c.do(table)
				wantErrno(t, c.what, errno, x.want)
				if is := told(t, table); is != was {
					t.Fatalf("%s: %s; it was %s", c.what, is, was)
				}
				wantNothingElse(t, c.what, table)
			}
		}
	}
}

// R4: nothing that was begun comes into the commit of a call that changes something: the disk is block by block what it is without it.
func TestBegunLeavesNoTrace(t *testing.T) {
	for _, c := range []call{register(publicClient("new"), "", 300), renew("app", q, 5, 300), turn("app", true, 300)} {
		plain := withApp(t)
		plain.want(c, api.OK)
		for _, begin := range someBegun(t) {
			b := withApp(t)
			begin(b.x)
			b.want(c, api.OK)
			if is, want := b.state(), plain.state(); !is.same(want) {
				t.Fatalf("%s: another disk", c.what)
			}
		}
	}
}
