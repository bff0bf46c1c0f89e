package access_test

import (
	"fmt"
	"slices"
	"testing"

	"latchkey/access"
	"latchkey/api"
	"latchkey/disk"
	"latchkey/grant"
	"latchkey/table"
	"latchkey/trail"
)

// someBegun are things that somebody may have begun on a table such as homely, and that would be seen if they counted.
func someBegun(t *testing.T) []func(x *table.Table) {
	ok := func(errno api.Errno) {
		t.Helper()
		wantErrno(t, "what is begun", errno, api.OK)
	}
	l := []func(x *table.Table){
		func(x *table.Table) { ok(x.RemoveKey(3)) },
		func(x *table.Table) { ok(x.PutKey(api.Key{Number: 3, Secret: secret(8), From: 0, Until: lastTime})) },
		func(x *table.Table) { ok(x.PutKey(api.Key{Number: 3, Secret: three().Secret, From: 0, Until: 5})) },
		func(x *table.Table) {
			ok(x.PutKey(api.Key{Number: lastKey, Secret: secret(8), From: 0, Until: lastTime}))
		},
		func(x *table.Table) {
			for n := range 6 {
				ok(x.PutKey(api.Key{Number: 10 + n, Secret: secret(8), From: 0, Until: lastTime}))
			}
		},
		func(x *table.Table) { ok(x.Remove(1)) },
		func(x *table.Table) {
			f := family(1)
			f.State, f.Ended = api.Revoked, 20
			ok(x.PutFamily(f))
		},
		func(x *table.Table) {
			f := family(2)
			f.Idle, f.Absolute = lastTime, lastTime
			ok(x.PutFamily(f))
			f.ID = 1
			ok(x.PutFamily(f))
		},
		func(x *table.Table) {
			for range 40 {
				trail.Note(x, api.EventKey, 0, "") // on some there is no number left for it
			}
		},
		func(x *table.Table) {
			ok(x.PutChain(api.Chain{Base: lastID, Next: lastID + 1, BaseHash: digestOf("a"), NextHash: digestOf("b")}))
		},
		func(x *table.Table) {
			for range 5 {
				_, errno := x.ID()
				ok(errno)
			}
		},
		func(x *table.Table) { ok(x.PutClient(app())) },
		func(x *table.Table) { grant.Begin(x, "app", "ann", nil, 0, secret(1)) },
	}
	return append(l, func(x *table.Table) {
		for _, n := range []int{11, 12, 1, 8, 6, 4, 10} {
			l[n](x)
		}
	})
}

// R4: what somebody has begun and not committed is forgotten ahead of NewKey, whatever it answers; nothing of it comes into its commit.
func TestNewKeyForgets(t *testing.T) {
	t.Parallel()
	full := make([]lay, 0, 3)
	for n := range 3 {
		full = append(full, layKey(api.Key{Number: 5 + n, Secret: secret(n), From: 0, Until: 100}))
	}
	for _, image := range []*both{homely(t), homely(t, full...), founded(t, 64, lastID, laySee(20), layKey(three()), layFamily(family(1)))} {
		for _, now := range []int{0, 20, 99, 100, most} {
			for _, s := range []string{secret(1), "short"} {
				plain := image.twin(t)
				plain.newKey(s, 5, now)
				for n, begin := range someBegun(t) {
					b := image.twin(t)
					begin(b.x)
					if b.newKey(s, 5, now); !slices.Equal(b.d.Blocks(), plain.d.Blocks()) {
						t.Fatalf("%d: another disk", n)
					}
				}
			}
		}
	}
}

// R4: it is forgotten by a NewKey that has no room, or no generation, too.
func TestNewKeyForgetsAndRefuses(t *testing.T) {
	for n, begin := range someBegun(t) {
		image := homely(t, crowd(20, 20)...)
		for _, d := range []*disk.Disk{tight(t, image.d, 0), aged(t, image.d, worn)} {
			b := &both{t, d, opened(t, d), image.e}
			want := []api.Errno{api.ErrPagerFull, api.ErrPagerWorn}
			begin(b.x)
			if k, errno := access.NewKey(b.x, secret(1), 5, 30); k != 0 || !slices.Contains(want, errno) {
				t.Fatalf("%d: %d, %d", n, k, errno)
			}
			b.e.see(30)
			b.look(fmt.Sprint(n, ": refused"))
		}
	}
}

// R4: it is forgotten ahead of Worth, whatever that answers.
func TestWorthForgets(t *testing.T) {
	image := homely(t)
	for _, now := range []int{20, 39, 40, 60} {
		for _, c := range []struct{ issuer, s string }{{"home", example}, {"home", ""}, {"Home", example}, {"home", tokenOf(10, secret(8), "home", claims())}, {"home", tokenOf(3, secret(8), "home", claims())}} {
			for n, begin := range someBegun(t) {
				b := image.twin(t)
				begin(b.x)
				b.worth(c.issuer, c.s, now)
				b.look(fmt.Sprint(n, ": forgotten"))
			}
		}
	}
}

// R3, R4: on a dead disk, and in doubt, it is forgotten all the same: the next ID is what it was.
func TestForgetsOnADeadDisk(t *testing.T) {
	b := homely(t)
	for n := range 3 {
		_, errno := b.x.ID()
		wantErrno(t, "ID", errno, api.OK)
		wantErrno(t, "PutKey", b.x.PutKey(api.Key{Number: 9, Secret: secret(1), Until: lastTime}), api.OK)
		kill(t, b.d)
		if n%2 == 0 {
			b.dead(example, 30+n)
		} else {
			b.unable(secret(1), 5, 30+n, api.ErrDead)
		}
		wantErrno(t, "Crash", b.d.Crash(nil), api.OK)
		b.x = opened(t, b.d)
		b.e.now = b.e.noted
		b.look("opened anew")
	}
}

// R5: each call shows the reading to the clock first of all, whatever it answers; nothing is noted unless it commits.
func TestReadings(t *testing.T) {
	image := homely(t)
	for _, reading := range []int{least, least + 1, -1, 0, 19, 20, 21, 39, 40, lastTime - 1, lastTime, lastTime + 1, lastID, most} {
		want := max(20, min(reading, lastTime))
		for n, call := range []func(b *both){
			func(b *both) { b.worth("home", example, reading) },
			func(b *both) { b.worth("", "", reading) },
			func(b *both) { b.refuses("short", 5, reading, api.ErrArg) },
			func(b *both) { b.makes(4, secret(1), 5, reading) },
		} {
			b := image.twin(t)
			call(b)
			if b.x.Now() != want {
				t.Fatalf("%d: the time is %d, want %d", n, b.x.Now(), want)
			}
			b.worth("home", example, least) // it does not go back
			if b.reopen(); b.x.Now() != map[bool]int{false: 20, true: want}[n == 3] {
				t.Fatalf("%d: the time is %d, behind opening", n, b.x.Now())
			}
		}
	}
}

// R5: it is the time that counts, not the reading: for a key's From and the end of the one ahead, and for what a text is worth.
func TestReadingsGoBack(t *testing.T) {
	b := homely(t)
	b.x.See(35)
	b.e.see(35)
	if !b.worth("home", example, 5) {
		t.Fatal("at 35")
	}
	b.makes(4, secret(4), 7, 5)
	wantKeys(t, b, three(), api.Key{Number: 4, Secret: secret(4), From: 35, Until: lastTime})
	b.makes(5, secret(5), 7, least)
	wantUntils(t, &both{t: t, d: b.d, x: b.x, e: b.e}, 3, 100, 42, lastTime)
	if b.worth("home", example, 40) || b.worth("home", example, 39) {
		t.Fatal("at 40")
	}
}
