package grant_test

import (
	"fmt"
	"slices"
	"testing"

	"latchkey/api"
	"latchkey/grant"
	"latchkey/table"
	"latchkey/trail"
)

// someBegun are things that somebody may have begun on a table that has the family 1 of app's, with the tokens 2 and 3.
func someBegun(t *testing.T) []func(x *table.Table) {
	ok := func(errno api.Errno) {
		t.Helper()
		wantErrno(t, "what is begun", errno, api.OK)
	}
	l := []func(x *table.Table){
		func(x *table.Table) {
			c := someClient("app")
			c.Off, c.Scope, c.Life = true, nil, 99
			ok(x.PutClient(c))
		},
		func(x *table.Table) { ok(x.PutClient(someClient("gone"))) },
		func(x *table.Table) {
			for range 5 {
				_, errno := x.ID()
				ok(errno)
			}
		},
		func(x *table.Table) {
			for range 40 {
				_, errno := trail.Note(x, api.EventKey, 0, "")
				ok(errno)
			}
		},
		func(x *table.Table) {
			ok(x.PutChain(api.Chain{Base: lastID, Next: lastID + 1, BaseHash: digestOf("a"), NextHash: digestOf("b")}))
		},
		func(x *table.Table) { ok(x.Remove(1)) },
		func(x *table.Table) {
			f, errno := x.Family(1)
			ok(errno)
			f.State, f.Ended = api.Revoked, f.Used
			ok(x.PutFamily(f))
		},
		func(x *table.Table) {
			k, errno := x.Token(3)
			ok(errno)
			k.Hash = digestOf("another text")
			ok(x.PutToken(k))
		},
		func(x *table.Table) {
			grant.Begin(x, "app", "ann", nil, 77, secret(70)) // as far as there are numbers left
			grant.Begin(x, "web", "ann", nil, 0, secret(71))
			grant.Begin(x, "web", "ann", nil, 0, secret(72))
		},
		func(x *table.Table) { ok(x.PutKey(api.Key{Number: 7, Secret: many(24, "s"), Until: 5})) },
	}
	return append(l, func(x *table.Table) {
		for _, n := range []int{0, 1, 2, 3, 6, 7, 8, 9} {
			l[n](x)
		}
	})
}

// someBegunAnywhere are things that somebody may have begun on any table.
func someBegunAnywhere() []func(x *table.Table) {
	return []func(x *table.Table){
		func(x *table.Table) { x.ID() },
		func(x *table.Table) { x.PutClient(someClient("gone")) },
		func(x *table.Table) { trail.Note(x, api.EventKey, 0, "") },
		func(x *table.Table) { x.Remove(1) },
		func(x *table.Table) { grant.Begin(x, "web", "ann", nil, 3, secret(1)) },
		func(x *table.Table) {
			x.PutKey(api.Key{Number: 1, Secret: secret(1)})
			x.PutChain(api.Chain{Base: lastID, Next: lastID + 1, BaseHash: digestOf("a"), NextHash: digestOf("b")})
		},
	}
}

// R4: what somebody has begun and not committed is forgotten ahead of each of the calls, whatever these answer; nothing of it comes into their commits.
func TestForgetsWhatWasBegun(t *testing.T) {
	t.Parallel()
	image, first, second := turned(t)
	fresh := textOf("lkr_", 5, secret(70)) // what a Begin would mint
	calls := []call{
		issue("app", "ann", nil, 115, secret(3)), issue("app", "ann", names("admin"), 115, secret(3)), issue("gone", "ann", nil, 115, secret(3)), issue("App", "ann", nil, 115, secret(3)), issue("app", "ann", nil, 115, ""),
		rotate("app", first, nil, 115, secret(3)), rotate("app", second, nil, 115, secret(3)), rotate("app", second, names("admin"), 115, secret(3)), rotate("app", fresh, nil, 115, secret(3)), rotate("web", second, nil, 115, secret(3)),
		rotate("app", first, nil, 125, secret(3)), rotate("app", second, nil, 160, secret(3)), rotate("app", second, nil, 115, ""), rotate("gone", second, nil, 115, secret(3)), rotate("app", "x", nil, 115, secret(3)),
		revoke("app", first, 115), revoke("app", second, 200), revoke("app", fresh, 115), revoke("web", first, 115), revoke("gone", first, 115), revoke("App", first, 115), revoke("app", "x", 115),
		revokeAll("ann", 115), revokeAll("ann", 200), revokeAll("nobody", 115), revokeAll("Ann", 115),
		introspect(first, 115), introspect(second, 115), introspect(fresh, 115), introspect("x", 115),
	}
	for _, c := range calls {
		t.Run(c.what, func(t *testing.T) {
			t.Parallel()
			plain := image.twin(t)
			plain.call(c)
			for _, begin := range someBegun(t) {
				b := image.twin(t)
				begin(b.x)
				b.call(c)
				if !slices.Equal(b.d.Blocks(), plain.d.Blocks()) {
					t.Fatalf("%s: another disk", c.what)
				}
			}
		})
	}
}

// R4: it is forgotten by calls that have no room, or no number, too.
func TestForgetsAndRefuses(t *testing.T) {
	t.Parallel()
	for _, f := range []fault{{ids: 9, full: true}, {ids: 9, aged: true}, {ids: 9, noEvent: true}, {ids: 0}, {ids: 1, full: true, aged: true}} {
		t.Run(fmt.Sprint(f), func(t *testing.T) {
			t.Parallel()
			b, texts := faulty(t, f)
			for n, c := range []call{
				issue("app", "ann", nil, 120, secret(30)), rotate("app", texts["fresh"], nil, 120, secret(30)), rotate("app", texts["reuse"], nil, 120, secret(30)),
				rotate("app", texts["expired"], nil, 120, secret(30)), revoke("app", texts["fresh"], 120), revokeAll("bob", 120),
			} {
				want := f.behind([]int{2, 1, 0, 0, 0, 0}[n])
				if want == api.OK {
					continue
				}
				for _, begin := range []func(x *table.Table){
					func(x *table.Table) { x.ID() },
					func(x *table.Table) { wantErrno(t, "PutClient", x.PutClient(someClient("gone")), api.OK) },
					func(x *table.Table) { wantErrno(t, "Remove", x.Remove(1), api.OK) },
					func(x *table.Table) { grant.Begin(x, "app", "zoe", nil, 0, secret(1)) },
				} {
					begin(b.x)
					b.trying(f, c, want)
					wantHas(t, c.what, b.x, b.b)
				}
			}
		})
	}
}

// R4, R5: a call that is refused by its arguments alone forgets and shows the reading all the same, also on a dead disk.
func TestForgetsOnADeadDisk(t *testing.T) {
	b, first, _ := turned(t)
	kill(t, b.d)
	for n, c := range []call{
		issue("App", "ann", nil, 121, secret(3)), rotate("App", first, nil, 122, secret(3)), revoke("App", first, 123), revokeAll("Ann", 124),
		issue("app", "ann", nil, 125, secret(3)), rotate("app", first, nil, 126, secret(3)), revoke("app", first, 127), revokeAll("ann", 128), introspect(first, 129), introspect("x", 130),
	} {
		want := api.ErrArg
		if n >= 4 {
			want = api.ErrDead
		}
		b.wantRefused(c, want)
		if b.x.Now() != 121+n {
			t.Fatalf("%s: the time is %d", c.what, b.x.Now())
		}
	}
	b.b.see(130)
	wantErrno(t, "Crash", b.d.Crash(nil), api.OK)
	b.reopen()
}

// R5: each call shows the reading to the clock first of all, whatever it answers; nothing is noted unless it commits.
func TestReadings(t *testing.T) {
	t.Parallel()
	for _, reading := range []int{least, -1, 0, 109, 110, 111, 150, lastTime - 1, lastTime, lastTime + 1, lastID, most} {
		image, first, second := turned(t)
		for _, c := range []call{
			issue("app", "ann", nil, reading, secret(3)), issue("app", "Ann", nil, reading, secret(3)), issue("gone", "ann", nil, reading, secret(3)), issue("app", "ann", names("admin"), reading, secret(3)),
			rotate("app", first, nil, reading, secret(3)), rotate("app", second, nil, reading, secret(3)), rotate("app", "x", nil, reading, secret(3)), rotate("app", second, nil, reading, ""),
			revoke("app", second, reading), revoke("app", "x", reading), revoke("", "x", reading), revokeAll("ann", reading), revokeAll("bob", reading), revokeAll("", reading),
			introspect(first, reading), introspect(second, reading), introspect("", reading),
		} {
			b := image.twin(t)
			b.call(c)
			if want := max(110, min(reading, lastTime)); b.x.Now() != want {
				t.Fatalf("%s: the time is %d, want %d", c.what, b.x.Now(), want)
			}
			b.reopen()
		}
	}
}
