package family_test

import (
	"math/rand"
	"testing"

	"latchkey/api"
	"latchkey/family"
)

// small is what a family of small numbers is begun by.
func small(idle, absolute, grace, now int) birth {
	b := usual()
	b.client.Idle, b.client.Absolute, b.client.Grace, b.now = idle, absolute, grace, now
	return b
}

// wantSeen is that each verdict of these came often enough.
func wantSeen(t *testing.T, counts [6]int, often int, verdicts ...int) {
	t.Helper()
	for _, v := range verdicts {
		if counts[v] < often {
			t.Errorf("the test is wrong: the verdict %d came %d times", v, counts[v])
		}
	}
}

// F8: all rows of at most so many tokens that are shown, each some seconds behind the one ahead of it.
func TestAllRows(t *testing.T) {
	var counts [6]int
	var walk func(b book, now, steps int)
	walk = func(b book, now, steps int) {
		if steps == 0 {
			return
		}
		for later := range 4 {
			for gen := range b.tokens {
				c := b.copied()
				c.show(t, gen, now+later, 10+len(b.tokens), secret(string(rune('a'+steps))))
				walk(c, now+later, steps-1)
			}
		}
	}
	for _, k := range []struct{ idle, absolute, grace, steps int }{{3, 7, 2, 5}, {3, 5, 1, 4}, {2, 4, 2, 4}, {3, 9, 0, 4}, {9, 4, 9, 4}} {
		walk(opened(t, small(k.idle, k.absolute, k.grace, 7), &counts), 7, k.steps)
	}
	wantSeen(t, counts, 100, 1, 2, 3, 4, 5)
}

// nearStep is a time that is not ahead of now: often one at which something ends.
func nearStep(r *rand.Rand, b book, now int) int {
	at := b.pages[r.Intn(len(b.pages))].at
	l := []int{now, now, now, now + 1, now + r.Intn(1+b.grace/2), now + r.Intn(b.idle), b.used + b.idle - 1}
	switch r.Intn(12) {
	case 0:
		l = append(l, b.used+b.idle, b.created+b.absolute, at+b.grace)
	case 1:
		l = append(l, b.created+b.absolute-1, at+b.grace-1)
	}
	return max(now, pick(r, l...))
}

// F8: long rows, drawn; the current token is shown often, so that they go on.
func TestDrawnRows(t *testing.T) {
	r := rand.New(rand.NewSource(5))
	var counts [6]int
	longest := 0
	for range 1500 {
		span := pick(r, 5, 50, 5000, 1<<30)
		b := opened(t, small(1+r.Intn(span), 1+r.Intn(20*span), pick(r, 0, 1, r.Intn(span), r.Intn(2*span)), pick(r, 0, r.Intn(1000), 1<<39)), &counts)
		now := b.created
		for n := range 25 {
			now = nearStep(r, b, now)
			last := len(b.tokens) - 1
			gen := pick(r, last, last, max(last-1, 0), r.Intn(last+1))
			b.show(t, gen, now, 100+n, someBytes(r, 24))
		}
		longest = max(longest, len(b.tokens))
	}
	wantSeen(t, counts, 400, 1, 2, 3, 4, 5)
	if longest < 10 {
		t.Errorf("the test is wrong: no family has more than %d generations", longest)
	}
}

// P5: no rotation, however often, moves the end behind Created and Absolute; each token is taken up to one second ahead of its deadline.
func TestEndIsNotMoved(t *testing.T) {
	var counts [6]int
	b := opened(t, small(5, 33, 2, 100), &counts)
	now := 100
	for n := 0; b.state == 1; n++ {
		if v := b.worth(len(b.tokens)-1, now); v == api.VerdictExpired && now < 133 {
			t.Fatalf("expired at %d", now)
		}
		b.show(t, len(b.tokens)-1, now, 10+n, secret("n"))
		now = max(now+1, min(now+4, 133))
	}
	if b.state != api.Expired || b.f.Ended != 133 || counts[api.VerdictFresh] != 9 {
		t.Errorf("%#v, %v", b.f, counts)
	}
}

// P5: idle for as long as may be, and one second longer.
func TestIdle(t *testing.T) {
	for _, late := range []int{0, 1} {
		var counts [6]int
		b := opened(t, small(50, 1000, 10, 100), &counts)
		b.show(t, 0, 149, 3, secret("n"))
		b.show(t, 1, 149+49+late, 4, secret("o"))
		if want := map[int]int{0: api.Active, 1: api.Expired}[late]; b.state != want {
			t.Errorf("%d late: %#v", late, b.f)
		}
	}
}

// P3: a token that is shown over and over gives the same next one, and none behind its grace; then the family has ended for good (P4).
func TestOnce(t *testing.T) {
	var counts [6]int
	b := opened(t, small(500, 1200, 10, 100), &counts)
	b.show(t, 0, 110, 3, secret("n"))
	for now := 110; now < 120; now++ {
		b.show(t, 0, now, 1000+now, secret("x"))
	}
	if counts[api.VerdictReplay] != 10 || len(b.tokens) != 2 {
		t.Fatalf("%v", counts)
	}
	b.show(t, 1, 119, 4, secret("o"))
	b.show(t, 0, 119, 5, secret("x"))
	b.show(t, 0, 120, 5, secret("x"))
	if b.state != api.Reused || b.f.Ended != 120 {
		t.Fatalf("%#v", b.f)
	}
	for now := 120; now < 1500; now++ {
		for gen := range b.tokens {
			b.show(t, gen, now, 9, secret("x"))
		}
	}
	wantSeen(t, counts, 4000, api.VerdictEnded)
}

// A verdict hangs on what is handed in alone: asked again, whatever was asked between, it is the same.
func TestJudgeChangesNothing(t *testing.T) {
	f, spent, fresh := rotated(t)
	for range 3 {
		for _, now := range []int{160, 119, 120, 110, most, least} {
			wantJudge(t, f, spent, now)
			wantJudge(t, f, fresh, now)
			wantTell(t, f, fresh, now)
			family.Finish(f, api.Revoked, now)
			family.Rotate(f, fresh, 9, secret("z"), now)
		}
	}
}
