package sweep_test

import (
	"fmt"
	"math/rand"
	"slices"
	"testing"

	"latchkey/api"
	"latchkey/sweep"
	"latchkey/table"
	"latchkey/trail"
)

// alike are two tables that were alike at first, of which one is swept.
type alike struct {
	calls
	t            *testing.T
	swept, other *table.Table
	gone         map[int]int // families that were swept
	took         api.Swept
}

func newAlike(t *testing.T, blocks, next, base, seed int) *alike {
	t.Helper()
	c := &alike{t: t, gone: map[int]int{}}
	c.swept, c.other = founded(t, blocks, next, base, lawClients()...).x, founded(t, blocks, next, base, lawClients()...).x
	c.calls = calls{r: rand.New(rand.NewSource(int64(seed))), now: func() int { return c.other.Now() }}
	return c
}

// isLess: is that an answer of no room, or of no number left?
func isLess(errno api.Errno) bool {
	return slices.Contains([]api.Errno{api.ErrPagerFull, api.ErrPagerWorn, api.ErrTableWorn}, errno)
}

// both asks both tables for the same: the answers are the same, but for those of no room and of no number left. It says whether they are.
func (c *alike) both(next call) bool {
	c.t.Helper()
	one, two := next.do(c.swept), next.do(c.other)
	c.verified(next.what)
	if one.same(two) && c.swept.Now() == c.other.Now() {
		c.heard(ownerOf(c.swept, one), one)
		return true
	}
	if !isLess(one.errno) && !isLess(two.errno) {
		c.t.Fatalf("%s at %d: the table that was swept answers %#v, the other one %#v", next.what, c.other.Now(), one, two)
	}
	return false
}

// verified is that the trails of both lead from the one end to the other.
func (c *alike) verified(what string) {
	c.t.Helper()
	for _, x := range []*table.Table{c.swept, c.other} {
		chain, events, errno := trail.Read(x)
		wantErrno(c.t, what+": Read", errno, api.OK)
		wantErrno(c.t, what+": Verify", trail.Verify(chain, events), api.OK)
	}
}

// endOf is chapter 14's.
func endOf(f api.Family) int {
	if f.State != api.Active {
		return f.Ended
	}
	return min(f.Created+f.Absolute, f.Used+f.Idle, lastTime)
}

// sweep sweeps the one table; the other one's clock sees the reading. What goes has ended at least retain ago, and nothing else is changed.
func (c *alike) sweep() {
	c.t.Helper()
	retain, count, now := c.retain(), drawn(c.r, 1, 2, 3, 16, 16, 0, 17), c.reading()
	if c.r.Intn(5) == 0 {
		_, _, errno := sweep.Due(c.swept, retain, now)
		wantErrno(c.t, "Due", errno, api.OK)
		c.other.See(now)
		return
	}
	was := toldOf(c.t, c.swept)
	s, errno := sweep.Run(c.swept, retain, count, now)
	c.other.See(now)
	is := toldOf(c.t, c.swept)
	families := c.wantOver(was, is, retain)
	if errno != api.OK && (s != api.Swept{} || families > 0) || errno == api.OK && s.Families != families {
		c.t.Fatalf("Run(%d, %d, %d): %+v, %d; %d families went", retain, count, now, s, errno, families)
	}
	if s.Families != len(was.families)-len(is.families) || s.Tokens != len(was.tokens)-len(is.tokens) || s.Codes != len(was.codes)-len(is.codes) {
		c.t.Fatalf("Run(%d, %d, %d): %+v", retain, count, now, s)
	}
	c.took.Families, c.took.Tokens, c.took.Codes = c.took.Families+s.Families, c.took.Tokens+s.Tokens, c.took.Codes+s.Codes
	c.verified("Run")
}

// wantOver is that the families which went have ended at least so long ago, and that those which stay are what they were: how many went.
func (c *alike) wantOver(was, is everything, retain int) int {
	c.t.Helper()
	gone := 0
	for _, f := range was.families {
		at := slices.IndexFunc(is.families, func(o api.Family) bool { return o.ID == f.ID })
		switch {
		case at >= 0 && !same(is.families[at], f):
			c.t.Fatalf("the family is %#v, it was %#v", is.families[at], f)
		case at < 0 && (is.now < endOf(f) || is.now-endOf(f) < min(max(retain, 0), lastTime)):
			c.t.Fatalf("%#v is gone at %d, with a retain of %d", f, is.now, retain)
		case at < 0:
			c.gone[f.ID]++
			gone++
		}
	}
	return gone
}

// row makes so many calls and sweeps; it ends ahead of that, if the one table had no room, or no number left, and the other one had. It says whether it came to its end.
func (c *alike) row(count int) bool {
	c.t.Helper()
	for range count {
		if c.r.Intn(4) == 0 {
			c.sweep()
			continue
		}
		if !c.both(c.below()) {
			return false
		}
	}
	return true
}

// last shows both tables all that was ever told.
func (c *alike) last() {
	c.t.Helper()
	now := c.other.Now()
	for _, k := range slices.Concat(c.tokens, c.codes) {
		for _, client := range []string{"app", "web"} {
			c.both(introspect(k.text, now))
			c.both(rotate(client, k.text, nil, now, secret(1)))
			c.both(redeem(client, k.text, v, now, secret(2)))
			c.both(revoke(client, k.text, now))
		}
	}
	for _, subject := range []string{"ann", "bob", many(16, "z")} {
		c.both(issue("app", subject, nil, now, secret(3)))
		c.both(revokeAll(subject, now))
	}
}

// S3, P9: rows of calls at random, on a table that is swept at random, and on one that is not: each answer is the same.
func TestAlike(t *testing.T) {
	t.Parallel()
	sum := tallied(t, 12, func(t *testing.T, seed int) tally {
		c := newAlike(t, 800, 1, 0, 500+seed)
		if !c.row(500) {
			t.Fatal("the test is wrong: there is not enough room")
		}
		c.last()
		return tally{swept: c.took}
	})
	if s := sum.swept; (s.Families < 200 || s.Tokens < s.Families+100 || s.Codes < 100) && !t.Failed() {
		t.Errorf("the test is wrong: hardly anything is swept: %+v", sum)
	}
}

// S3: the table that is swept each time it is asked, of all that has ended, answers as the one that never is.
func TestAlikeSweptAlways(t *testing.T) {
	t.Parallel()
	for seed := range 8 {
		t.Run(fmt.Sprint(seed), func(t *testing.T) {
			t.Parallel()
			c := newAlike(t, 600, 1, 0, 600+seed)
			for range 250 {
				if !c.both(c.below()) {
					t.Fatal("the test is wrong: there is not enough room")
				}
				for due := 1; due > 0; {
					s, errno := sweep.Run(c.swept, 0, 16, c.other.Now())
					wantErrno(t, "Run", errno, api.OK)
					due = s.Families + s.Codes
					c.took.Families += s.Families
				}
				if l, errno := c.swept.Ending(c.swept.Now()+1, most); len(l) > 0 || errno != api.OK {
					t.Fatalf("these are there still: %v, %d", l, errno)
				}
			}
			c.last()
			if c.took.Families < 10 {
				t.Errorf("the test is wrong: %+v", c.took)
			}
		})
	}
}

// S3: with little room, and with few numbers left, the answers are the same up to the first that is of no room, or of no number.
func TestAlikeLess(t *testing.T) {
	t.Parallel()
	less := make(chan bool, 24)
	t.Run("rows", func(t *testing.T) {
		for seed := range 12 {
			t.Run(fmt.Sprint(seed), func(t *testing.T) {
				t.Parallel()
				less <- newAlike(t, 20+4*seed, 1, 0, 700+seed).row(300)
				less <- newAlike(t, 600, lastID-10*seed, lastID-10*(12-seed), 800+seed).row(300)
			})
		}
	})
	close(less)
	apart := 0
	for whole := range less {
		if !whole {
			apart++
		}
	}
	if apart < 8 && !t.Failed() {
		t.Errorf("the test is wrong: %d rows went apart", apart)
	}
}

// S3: each thing that can be asked of what is gone, one by one.
func TestAlikeEach(t *testing.T) {
	t.Parallel()
	image := newBoth(t)
	code, token := image.redeemed("ann", 500, 100, 1)
	next := image.gives(rotate("app", token, nil, 105, secret(9)))
	fresh := image.approved("ann", 5, 105, 2)
	other := image.issued("bob", 105, 3)
	image.want(revoke("app", other, 106), api.OK)
	texts := []string{code, token, next, fresh, other}
	for _, retain := range []int{0, 10} {
		for _, later := range []int{0, 1, 100} {
			var each []call
			now := 155 + retain
			for _, text := range texts {
				for _, client := range []string{"app", "web"} {
					each = append(each, rotate(client, text, nil, now+later, secret(20)), redeem(client, text, v, now+later, secret(20)), redeem(client, text, w, now+later, secret(20)), revoke(client, text, now+later))
				}
				each = append(each, introspect(text, now+later), rotate("app", text, names("zzz"), now+later, secret(20)), rotate("gone", text, nil, now+later, secret(20)))
			}
			each = append(each, revokeAll("ann", now+later), revokeAll("bob", now+later), issue("app", "ann", nil, now+later, secret(20)), approve("app", "ann", nil, ofV, 5, now+later, secret(20)))
			for _, c := range each {
				one, two := image.twin(t), image.twin(t)
				if s := run(retain, 16, now).do(one.x).swept; s != (api.Swept{Families: 2, Tokens: 3, Codes: 2}) {
					t.Fatalf("%+v", s)
				}
				two.x.See(now)
				if a, b := c.do(one.x), c.do(two.x); !a.same(b) {
					t.Fatalf("%s: %#v, else %#v", c.what, a, b)
				}
			}
		}
	}
}
