package sweep_test

import (
	"fmt"
	"slices"
	"testing"

	"latchkey/api"
	"latchkey/grant"
	"latchkey/table"
	"latchkey/trail"
)

// someBegun are things that somebody may have begun on the table of faulty: families and codes that are taken away, or are due by that, or are not any more.
func someBegun(t *testing.T) []func(x *table.Table) {
	ok := func(errno api.Errno) {
		t.Helper()
		wantErrno(t, "what is begun", errno, api.OK)
	}
	ofFamily := func(x *table.Table, id int, change func(f *api.Family)) {
		f, errno := x.Family(id)
		ok(errno)
		change(&f)
		ok(x.PutFamily(f))
	}
	ofCode := func(x *table.Table, id int, change func(k *api.Code)) {
		k, errno := x.Code(id)
		ok(errno)
		change(&k)
		ok(x.PutCode(k))
	}
	l := []func(x *table.Table){
		func(x *table.Table) { ok(x.PutClient(someClient("gone"))) },
		func(x *table.Table) {
			for range 5 {
				_, errno := x.ID()
				ok(errno)
			}
		},
		func(x *table.Table) {
			for range 40 {
				trail.Note(x, api.EventKey, 0, "")
			}
		},
		func(x *table.Table) {
			ok(x.PutChain(api.Chain{Base: lastID, Next: lastID + 1, BaseHash: digestOf("a"), NextHash: digestOf("b")}))
		},
		func(x *table.Table) { ok(x.Remove(2)) },
		func(x *table.Table) { ok(x.Remove(4)) },
		func(x *table.Table) { ok(x.RemoveCode(1)) },
		func(x *table.Table) { ok(x.RemoveCode(10)) },
		func(x *table.Table) { ofFamily(x, 7, func(f *api.Family) { f.State, f.Ended = api.Revoked, f.Used }) },
		func(x *table.Table) {
			ofFamily(x, 2, func(f *api.Family) { f.Used, f.Idle, f.Absolute, f.Code = lastTime, lastTime, lastTime, 0 })
			ofFamily(x, 4, func(f *api.Family) { f.Client, f.Code = "other", 9 })
		},
		func(x *table.Table) {
			ofCode(x, 10, func(k *api.Code) { k.Until = lastTime })
			ofCode(x, 9, func(k *api.Code) { k.Until = 0 })
		},
		func(x *table.Table) {
			ofCode(x, 1, func(k *api.Code) { k.State, k.Family, k.Until = api.CodeFresh, 0, 0 })
			ofCode(x, 10, func(k *api.Code) { k.State, k.Family = api.CodeSpent, 4 })
		},
		func(x *table.Table) {
			ok(x.PutToken(api.Token{ID: 50, Family: 2, Gen: 2, Hash: digestOf("a")}))
			ok(x.PutToken(api.Token{ID: 51, Family: 4, Gen: 9, Hash: digestOf("a")}))
		},
		func(x *table.Table) { grant.Begin(x, "app", "zoe", nil, 9, secret(70)) },
		func(x *table.Table) { ok(x.PutKey(api.Key{Number: 7, Secret: many(24, "s"), Until: 5})) },
	}
	return append(l, func(x *table.Table) {
		for _, n := range []int{9, 11, 0, 1, 2, 3, 12, 13, 14} {
			l[n](x)
		}
	})
}

// R4: what somebody has begun and not committed is forgotten ahead of each of the calls, whatever these answer; nothing of it comes into their commits.
func TestForgetsWhatWasBegun(t *testing.T) {
	t.Parallel()
	image := faulty(t, fault{events: 99})
	var calls []call
	for _, now := range []int{0, 120, 149, 150, 155, 160, most} {
		for _, retain := range []int{0, 5, most} {
			calls = append(calls, due(retain, now), run(retain, 0, now), run(retain, 17, now), run(retain, 1, now), run(retain, 16, now))
		}
	}
	for _, c := range calls {
		t.Run(c.what, func(t *testing.T) {
			t.Parallel()
			plain := image.twin(t)
			plain.call(c)
			for _, begin := range someBegun(t) {
				b := image.twin(t)
				begin(b.x)
				b.call(c)
				if !slices.Equal(b.d.Blocks(), plain.d.Blocks()) {
					t.Fatalf("%s: another disk", c.what)
				}
			}
		})
	}
}

// R4: it is forgotten by calls that have no room, or no number, too.
func TestForgetsAndRefuses(t *testing.T) {
	t.Parallel()
	for _, f := range []fault{{events: 0}, {events: 2}, {events: 99, full: true}, {events: 99, aged: true}, {events: 1, full: true, aged: true}} {
		t.Run(fmt.Sprint(f), func(t *testing.T) {
			t.Parallel()
			b := faulty(t, f)
			for _, begin := range someBegun(t) {
				begin(b.x)
				b.wantRefused(run(0, 16, 160), f.behind(3))
				b.b.see(160)
				b.look("refused")
			}
		})
	}
}

// R3, R4, R5: a call that is refused by its arguments alone, or by a dead disk, forgets and shows the reading all the same.
func TestForgetsOnADeadDisk(t *testing.T) {
	b := faulty(t, fault{events: 99})
	now := 200
	refuses := func() {
		t.Helper()
		for _, c := range []func() call{func() call { return run(0, 0, now) }, func() call { return run(0, 17, now) }} {
			now++
			b.wantRefused(c(), api.ErrArg)
			wantNow(t, b, now)
		}
		for _, c := range []func() call{func() call { return run(0, 16, now) }, func() call { return run(most, 1, now) }, func() call { return due(0, now) }, func() call { return due(most, now) }} {
			now++
			b.wantRefused(c(), api.ErrDead)
			wantNow(t, b, now)
		}
	}
	wantErrno(t, "Remove", b.x.Remove(4), api.OK)
	kill(t, b.d)
	refuses()
	wantErrno(t, "Crash", b.d.Crash(nil), api.OK) // it is in doubt until it is opened anew
	refuses()
	b.reopen()
	b.run(0, 16, 160, api.Swept{Families: 3, Tokens: 3, Codes: 3})
}

func wantNow(t *testing.T, b *both, now int) {
	t.Helper()
	if b.x.Now() != now {
		t.Fatalf("the time is %d, want %d", b.x.Now(), now)
	}
}

// R5: each call shows the reading to the clock first of all, whatever it answers; nothing is noted unless it commits.
func TestReadings(t *testing.T) {
	t.Parallel()
	image := faulty(t, fault{events: 99})
	for _, reading := range []int{least, -1, 0, 119, 120, 121, 149, 150, 151, 160, lastTime - 1, lastTime, lastTime + 1, lastID, most} {
		for _, c := range []call{
			due(0, reading), due(5, reading), due(most, reading), run(0, 0, reading), run(0, most, reading), run(0, 1, reading), run(0, 16, reading), run(5, 16, reading), run(most, 16, reading),
		} {
			b := image.twin(t)
			b.call(c)
			wantNow(t, b, max(120, min(reading, lastTime)))
			b.due(0, 0, len(b.b.dueLines(0)), len(b.b.dueSlips(0))) // it does not go back
			b.reopen()
		}
	}
}

// R5: what is due is so by the time, not by the reading.
func TestReadingsGoBack(t *testing.T) {
	b := newBoth(t)
	b.issued("ann", 100, 1)
	b.issued("bob", 100, 2)
	b.due(0, 0, 0, 0)
	b.x.See(150)
	b.b.see(150)
	b.due(0, 0, 2, 0)
	b.run(0, 1, least, api.Swept{Families: 1, Tokens: 1})
	b.sweeps(150, "app", 1)
	b.run(0, 1, -1, api.Swept{Families: 1, Tokens: 1})
}
