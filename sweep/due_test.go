package sweep_test

import (
	"fmt"
	"testing"

	"latchkey/api"
)

// retains are some, each with what it counts as.
var retains = []struct{ is, counts int }{
	{least, 0}, {least + 1, 0}, {-lastID, 0}, {-1, 0}, {0, 0}, {1, 1}, {2, 2}, {30, 30}, {1000, 1000}, {lastTime - 1, lastTime - 1},
	{lastTime, lastTime}, {lastTime + 1, lastTime}, {lastID, lastTime}, {most - 1, lastTime}, {most, lastTime},
}

// readings are some, all of which a clock may show.
var readings = []int{least, -1, 0, 1, 99, 100, 1000, lastTime - 1, lastTime, lastTime + 1, lastID, most}

// S1: no family and no code.
func TestDueNothing(t *testing.T) {
	b := newBoth(t)
	for _, retain := range retains {
		for _, now := range readings {
			twin := b.twin(t)
			twin.due(retain.is, now, 0, 0)
			for _, count := range []int{1, 16} {
				twin.run(retain.is, count, now, api.Swept{})
			}
		}
	}
}

// ending is a way in which a family ends.
type ending struct {
	what   string
	end    int // its END
	tokens int
	lay    func(b *both)
}

// endings are all ways: told by somebody, or not told at all. Each begins a family of app's for ann at 100.
func endings() []ending {
	return []ending{
		{"idle, and nobody noted it", 150, 1, func(b *both) { b.issued("ann", 100, 1) }},
		{"idle behind a rotation", 165, 2, func(b *both) {
			b.want(rotate("app", b.issued("ann", 100, 1), nil, 115, secret(2)), api.OK)
		}},
		{"old, and nobody noted it", 220, 4, func(b *both) {
			token := b.issued("ann", 100, 1)
			for n := range 3 {
				token = b.gives(rotate("app", token, nil, 140+30*n, secret(2+n)))
			}
		}},
		{"expired", 170, 1, func(b *both) {
			b.want(rotate("app", b.issued("ann", 100, 1), nil, 170, secret(2)), api.ErrGrantToken)
		}},
		{"revoked", 130, 1, func(b *both) { b.want(revoke("app", b.issued("ann", 100, 1), 130), api.OK) }},
		{"revoked behind its end", 300, 1, func(b *both) { b.want(revoke("app", b.issued("ann", 100, 1), 300), api.OK) }},
		{"all revoked", 131, 1, func(b *both) {
			b.issued("ann", 100, 1)
			b.want(revokeAll("ann", 131), api.OK)
		}},
		{"reused", 120, 2, func(b *both) {
			token := b.issued("ann", 100, 1)
			b.want(rotate("app", token, nil, 110, secret(2)), api.OK)
			b.want(rotate("app", token, nil, 120, secret(3)), api.ErrGrantToken)
		}},
	}
}

// S1, S2: each way to end, each retain: one second too early, just in time, and later.
func TestDueRetain(t *testing.T) {
	t.Parallel()
	for _, e := range endings() {
		t.Run(e.what, func(t *testing.T) {
			t.Parallel()
			image := newBoth(t)
			e.lay(image)
			for _, retain := range retains {
				for _, now := range []int{0, e.end - 1, e.end, e.end + 1, e.end + retain.counts - 1, e.end + retain.counts, e.end + retain.counts + 1, lastTime - 1, lastTime, most} {
					b := image.twin(t)
					at := min(max(now, b.x.Now()), lastTime)
					if at-e.end < retain.counts {
						b.due(retain.is, now, 0, 0)
						b.run(retain.is, 16, now, api.Swept{})
						b.left(1)
						continue
					}
					b.due(retain.is, now, 1, 0)
					b.run(retain.is, 1, now, api.Swept{Families: 1, Tokens: e.tokens})
					b.sweeps(at, "app", 1)
					b.left()
					b.due(retain.is, now, 0, 0)
				}
			}
		})
	}
}

// S1: the greatest retain is over for what ended at 0 alone, at the last time alone.
func TestDueGreatestRetain(t *testing.T) {
	image := newBoth(t)
	image.want(revoke("app", image.issued("ann", 0, 1), 0), api.OK)
	image.approved("bob", 0, 0, 2)
	image.want(revoke("app", image.issued("ann", 1, 3), 1), api.OK)
	for _, retain := range retains {
		if retain.counts < lastTime {
			continue
		}
		b := image.twin(t)
		b.due(retain.is, lastTime-1, 0, 0)
		b.run(retain.is, 16, lastTime-1, api.Swept{})
		b.due(retain.is, lastTime, 1, 1)
		b.run(retain.is, 16, lastTime, api.Swept{Families: 1, Tokens: 1, Codes: 1})
		b.left(4)
		b.codes()
	}
}

// S1: a family whose END is the last time there is alive up to that.
func TestDueLastTime(t *testing.T) {
	long := someClient("long")
	long.Idle, long.Absolute = lastTime, lastTime
	b := founded(t, 64, 1, 0, long)
	b.want(issue("long", "ann", nil, 100, secret(1)), api.OK)
	b.want(approve("long", "ann", nil, ofV, most, 100, secret(2)), api.OK)
	b.due(0, lastTime-1, 0, 0)
	b.run(least, 16, lastTime-1, api.Swept{})
	b.due(1, most, 0, 0)
	b.run(1, 16, most, api.Swept{})
	b.due(0, most, 1, 1)
	b.run(-5, 16, most, api.Swept{Families: 1, Tokens: 1, Codes: 1})
}

// S1: families that are alive are not due, whatever the retain is; the clock alone has seen the reading.
func TestDueAlive(t *testing.T) {
	b := newBoth(t)
	token := b.issued("ann", 100, 1)
	for n, now := range []int{149, 198, 219} {
		for _, retain := range []int{least, -1, 0, 1, most} {
			b.due(retain, now, 0, 0)
			b.run(retain, 16, now, api.Swept{})
		}
		token = b.gives(rotate("app", token, nil, now, secret(2+n)))
	}
	b.due(0, 220, 1, 0) // Created and Absolute
}

// S1: codes that are Fresh: one second less, just so, later; those that are Spent never.
func TestDueCodes(t *testing.T) {
	image := newBoth(t)
	image.redeemed("ann", 5, 100, 1) // the code 1, over at 105, and the family 2, whose END is 150
	image.approved("bob", 30, 100, 2)
	image.want(approve("web", "bob", nil, ofV, 40, 100, secret(3)), api.OK)
	for _, retain := range retains {
		if retain.counts > 1000 {
			continue
		}
		for _, c := range []struct{ now, codes int }{{0, 0}, {129, 0}, {130, 1}, {139, 1}, {140, 2}, {149, 2}} {
			b := image.twin(t)
			b.due(retain.is, c.now+retain.counts, 0, c.codes)
		}
	}
	b := image.twin(t)
	b.due(19, 149, 0, 1)
	b.run(19, 16, 149, api.Swept{Codes: 1})
	b.codes(1, 5)
	b.due(0, 149, 0, 1)
	b.due(0, 150, 1, 1)
}

// S1: a code that lives no second at all.
func TestDueCodeOfNoLife(t *testing.T) {
	b := newBoth(t)
	b.approved("ann", 0, 100, 1)
	b.due(0, 99, 0, 1)
	b.due(1, 100, 0, 0)
	b.due(1, 101, 0, 1)
	b.run(1, 1, 101, api.Swept{Codes: 1})
}

// S1: more than one sweep may take are counted, all of them.
func TestDueMany(t *testing.T) {
	b := founded(t, 400, 1, 0, three()...)
	for n := range 60 {
		wantErrno(t, "Issue", b.quick(issue("app", fmt.Sprint("s", n/4), nil, 100+n/10, secret(n))).errno, api.OK)
	}
	for n := range 8 {
		wantErrno(t, "Approve", b.quick(approve("app", "ann", nil, ofV, 40, 105, secret(100+n))).errno, api.OK)
	}
	b.due(0, 149, 0, 8)
	b.due(0, 150, 10, 8)
	b.due(2, 154, 30, 8)
	b.due(5, 155, 10, 8)
	b.due(0, 155, 60, 8)
	b.due(11, 0, 0, 0)
	b.due(10, 0, 0, 8)
}

// S1: ErrDead, of a disk that is dead and of a table in doubt, ahead of what stands there; also if there is nothing.
func TestDueDead(t *testing.T) {
	for n := range 3 {
		b := newBoth(t)
		if n > 0 {
			b.issued("ann", 100, 1)
		}
		if n > 1 {
			b.approved("ann", 10, 100, 2)
		}
		kill(t, b.d)
		for _, retain := range retains {
			b.wantRefused(due(retain.is, 1000), api.ErrDead)
		}
		wantErrno(t, "Crash", b.d.Crash(nil), api.OK)
		for _, now := range readings {
			b.wantRefused(due(0, now), api.ErrDead)
		}
		b.reopen()
		b.due(1000, 1000, 0, 0)
	}
}
