package code_test

import (
	"fmt"
	"slices"
	"testing"

	"latchkey/api"
	"latchkey/grant"
	"latchkey/table"
	"latchkey/trail"
)

// shown is a table at 110 on which app has the code 1, Fresh up to 130, and the code 2, Spent, of which the family 3 came, whose token is 4.
func shown(t *testing.T) (b *both, fresh, used string) {
	t.Helper()
	b = newBoth(t)
	fresh = b.code(30, 100, 1)
	used = b.code(30, 100, 2)
	b.want(redeem("app", used, v, 110, secret(3)), api.OK)
	return b, fresh, used
}

// someBegun are things that somebody may have begun on such a table.
func someBegun(t *testing.T) []func(x *table.Table) {
	ok := func(errno api.Errno) {
		t.Helper()
		wantErrno(t, "what is begun", errno, api.OK)
	}
	of := func(x *table.Table, id int, change func(k *api.Code)) {
		k, errno := x.Code(id)
		ok(errno)
		change(&k)
		ok(x.PutCode(k))
	}
	l := []func(x *table.Table){
		func(x *table.Table) {
			c := someClient("app")
			c.Off, c.Scope, c.Life = true, nil, 99
			ok(x.PutClient(c))
		},
		func(x *table.Table) { ok(x.PutClient(someClient("gone"))) },
		func(x *table.Table) {
			for range 5 {
				_, errno := x.ID()
				ok(errno)
			}
		},
		func(x *table.Table) {
			for range 40 {
				_, errno := trail.Note(x, api.EventKey, 0, "")
				ok(errno)
			}
		},
		func(x *table.Table) {
			ok(x.PutChain(api.Chain{Base: lastID, Next: lastID + 1, BaseHash: digestOf("a"), NextHash: digestOf("b")}))
		},
		func(x *table.Table) { ok(x.RemoveCode(1)) },
		func(x *table.Table) { ok(x.Remove(3)) },
		func(x *table.Table) {
			of(x, 1, func(k *api.Code) { k.State, k.Family = api.CodeSpent, 3 })
			of(x, 2, func(k *api.Code) { k.State, k.Family = api.CodeFresh, 0 })
		},
		func(x *table.Table) {
			of(x, 1, func(k *api.Code) { k.Hash, k.Challenge, k.Until, k.Subject = digestOf("a"), digestOf(w), 0, "other" })
		},
		func(x *table.Table) {
			f, errno := x.Family(3)
			ok(errno)
			f.State, f.Ended = api.Revoked, f.Used
			ok(x.PutFamily(f))
		},
		func(x *table.Table) {
			for n := range 12 { // as many as may not be
				ok(x.PutCode(api.Code{ID: 50 + n, Client: "app", Subject: "ann", Hash: digestOf(textOf("lkc_", 50+n, secret(1))), Challenge: digestOf(v), Until: lastTime, State: api.CodeFresh}))
			}
		},
		func(x *table.Table) {
			for n := range 4 {
				grant.Begin(x, "app", "ann", nil, 1, secret(70+n))
			}
		},
		func(x *table.Table) { ok(x.PutKey(api.Key{Number: 7, Secret: many(24, "s"), Until: 5})) },
	}
	return append(l, func(x *table.Table) {
		for _, n := range []int{8, 0, 1, 2, 3, 9, 10, 12} {
			l[n](x)
		}
	})
}

// R4: what somebody has begun and not committed is forgotten ahead of each of the calls, whatever these answer; nothing of it comes into their commits.
func TestForgetsWhatWasBegun(t *testing.T) {
	t.Parallel()
	image, fresh, used := shown(t)
	begun := textOf("lkc_", 50, secret(1))
	for _, c := range []call{
		approve("app", "ann", nil, ofV, 30, 115, secret(9)), approve("app", "ann", nil, ofV, 30, 130, secret(9)), approve("app", "ann", names("admin"), ofV, 30, 115, secret(9)), approve("gone", "ann", nil, ofV, 30, 115, secret(9)),
		approve("off", "ann", nil, ofV, 30, 115, secret(9)), approve("App", "ann", nil, ofV, 30, 115, secret(9)), approve("app", "ann", nil, "", 30, 115, secret(9)), approve("app", "ann", nil, ofV, 30, 115, ""),
		redeem("app", fresh, v, 115, secret(9)), redeem("app", fresh, w, 115, secret(9)), redeem("app", fresh, v, 130, secret(9)), redeem("web", fresh, v, 115, secret(9)), redeem("gone", fresh, v, 115, secret(9)),
		redeem("app", used, v, 115, secret(9)), redeem("app", used, "", 200, secret(9)), redeem("web", used, v, 115, secret(9)), redeem("app", begun, v, 115, secret(9)), redeem("app", "x", v, 115, secret(9)),
		redeem("App", fresh, v, 115, secret(9)), redeem("app", fresh, v, 115, ""),
	} {
		t.Run(c.what, func(t *testing.T) {
			t.Parallel()
			plain := image.twin(t)
			plain.call(c)
			for _, begin := range someBegun(t) {
				b := image.twin(t)
				begin(b.x)
				b.call(c)
				if !slices.Equal(b.d.Blocks(), plain.d.Blocks()) {
					t.Fatalf("%s: another disk", c.what)
				}
			}
		})
	}
}

// R4: it is forgotten by calls that have no room, or no number, too.
func TestForgetsAndRefuses(t *testing.T) {
	t.Parallel()
	for _, f := range []fault{{ids: 9, full: true}, {ids: 9, aged: true}, {ids: 9, noEvent: true}, {ids: 0}, {ids: 1, full: true, aged: true}, {ids: 9, many: true}} {
		t.Run(fmt.Sprint(f), func(t *testing.T) {
			t.Parallel()
			b, texts := faulty(t, f)
			for n, c := range []call{
				approve("app", "ann", nil, ofV, 30, 120, secret(30)), redeem("app", texts["crowded"], v, 120, secret(30)), redeem("app", texts["spent"], v, 120, secret(30)), redeem("app", texts["expired"], v, 120, secret(30)),
			} {
				want := f.behind([]int{1, 2, 0, 0}[n])
				if f.many && n < 2 {
					want = []api.Errno{api.ErrCodeMany, api.ErrGrantMany}[n]
				}
				if want == api.OK {
					continue
				}
				for _, begin := range []func(x *table.Table){
					func(x *table.Table) { x.ID() },
					func(x *table.Table) { wantErrno(t, "PutClient", x.PutClient(someClient("gone")), api.OK) },
					func(x *table.Table) { wantErrno(t, "Remove", x.Remove(2), api.OK) },
					func(x *table.Table) { wantErrno(t, "RemoveCode", x.RemoveCode(1), api.OK) },
					func(x *table.Table) { grant.Begin(x, "app", "zoe", nil, 0, secret(1)) },
				} {
					begin(b.x)
					b.trying(f, c, want)
					wantHas(t, c.what, b.x, b.b)
				}
			}
		})
	}
}

// R3, R4, R5: a call that is refused by its arguments alone forgets and shows the reading all the same, also on a dead disk, and on a table in doubt.
func TestForgetsOnADeadDisk(t *testing.T) {
	b, fresh, used := shown(t)
	now := 120
	dead := func() {
		for n, c := range []func(now int) call{
			func(now int) call { return approve("App", "ann", nil, ofV, 30, now, secret(9)) },
			func(now int) call { return approve("app", "ann", nil, "", 30, now, secret(9)) },
			func(now int) call { return approve("gone", "ann", names("b", "a"), ofV, 30, now, secret(9)) },
			func(now int) call { return redeem("App", fresh, v, now, secret(9)) },
			func(now int) call { return redeem("app", fresh, v, now, "") },
			func(now int) call { return approve("app", "ann", nil, ofV, 30, now, secret(9)) },
			func(now int) call { return approve("gone", "ann", nil, ofV, 30, now, secret(9)) },
			func(now int) call { return approve("app", "ann", names("admin"), ofV, 30, now, secret(9)) },
			func(now int) call { return redeem("app", fresh, v, now, secret(9)) },
			func(now int) call { return redeem("app", used, v, now, secret(9)) },
			func(now int) call { return redeem("app", "x", "", now, secret(9)) },
			func(now int) call { return redeem("gone", "x", "", now, secret(9)) },
		} {
			want := api.ErrArg
			if n >= 5 {
				want = api.ErrDead
			}
			now++
			b.wantRefused(c(now), want)
			if b.x.Now() != now {
				t.Fatalf("%s: the time is %d", c(now).what, b.x.Now())
			}
		}
	}
	kill(t, b.d)
	dead()
	wantErrno(t, "Crash", b.d.Crash(nil), api.OK)
	dead()
	b.b.see(now)
	b.reopen()
	b.want(redeem("app", fresh, v, 120, secret(9)), api.OK)
}

// R5: each call shows the reading to the clock first of all, whatever it answers; nothing is noted unless it commits.
func TestReadings(t *testing.T) {
	t.Parallel()
	image, fresh, used := shown(t)
	for _, reading := range []int{least, -1, 0, 109, 110, 111, 129, 130, 150, lastTime - 1, lastTime, lastTime + 1, lastID, most} {
		for _, c := range []call{
			approve("app", "ann", nil, ofV, 30, reading, secret(9)), approve("app", "Ann", nil, ofV, 30, reading, secret(9)), approve("gone", "ann", nil, ofV, 30, reading, secret(9)), approve("app", "ann", names("admin"), ofV, 30, reading, secret(9)),
			redeem("app", fresh, v, reading, secret(9)), redeem("app", fresh, w, reading, secret(9)), redeem("web", fresh, v, reading, secret(9)), redeem("app", used, v, reading, secret(9)), redeem("app", "x", v, reading, secret(9)),
			redeem("app", fresh, v, reading, ""), redeem("gone", fresh, v, reading, secret(9)),
		} {
			b := image.twin(t)
			b.call(c)
			if want := max(110, min(reading, lastTime)); b.x.Now() != want {
				t.Fatalf("%s: the time is %d, want %d", c.what, b.x.Now(), want)
			}
			b.reopen()
		}
	}
}
