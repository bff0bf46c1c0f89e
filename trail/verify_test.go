package trail_test

import (
	"slices"
	"testing"

	"latchkey/api"
	"latchkey/trail"
)

// wantVerify is that Verify answers that, and that it is what the document says of it.
func wantVerify(t *testing.T, what string, c api.Chain, l []api.Event, want api.Errno) {
	t.Helper()
	if verified(c, l) != want {
		t.Fatalf("%s: the test is wrong: %d, and the model says %d", what, want, verified(c, l))
	}
	wantErrno(t, what, trail.Verify(c, l), want)
}

// sizes are how many events a trail may have.
func sizes() []int { return []int{0, 1, 2, 3, 31, 32} }

// bases are where a trail may begin.
func bases() []int { return []int{0, 1, 33, 1 << 40, lastID - 33, lastID - 32} }

// overTrails does something with trails that lead.
func overTrails(do func(c api.Chain, l []api.Event)) {
	for _, base := range bases() {
		for _, size := range sizes() {
			do(someTrail(base, size))
		}
	}
	do(someTrail(lastID, 0))
	do(someTrail(lastID-1, 1))
}

// T4: what leads is taken.
func TestVerifyRight(t *testing.T) {
	overTrails(func(c api.Chain, l []api.Event) {
		wantVerify(t, "right", c, l, api.OK)
	})
	wantVerify(t, "no events, another digest than noughts", api.Chain{Base: 0, Next: 1, BaseHash: digest(1), NextHash: digest(1)}, nil, api.OK)
	wantVerify(t, "an empty list", first(), []api.Event{}, api.OK)
}

// wrongChains are those that may not be, by one field each.
func wrongChains(c api.Chain) []api.Chain {
	var l []api.Chain
	for _, base := range []int{least, -1, c.Next, c.Next + 1, c.Next - 34, c.Next - 35, lastID + 1, most} {
		x := c
		x.Base = base
		l = append(l, x)
	}
	for _, next := range []int{least, -1, 0, c.Base, c.Base - 1, c.Base + 34, c.Base + 35, lastID + 2, most} {
		x := c
		x.Next = next
		l = append(l, x)
	}
	for _, size := range []int{0, 1, 31, 33, 64} {
		x, y := c, c
		x.BaseHash, y.NextHash = many(size, "\x00"), many(size, "\x00")
		l = append(l, x, y)
	}
	return append(l, api.Chain{}, api.Chain{Base: lastID + 1, Next: lastID + 2, BaseHash: noughts, NextHash: noughts})
}

// T4: a chain that may not be.
func TestVerifyWrongChain(t *testing.T) {
	overTrails(func(c api.Chain, l []api.Event) {
		for _, x := range wrongChains(c) {
			wantVerify(t, "a chain that may not be", x, l, api.ErrTrailField)
			wantVerify(t, "and no events", x, nil, api.ErrTrailField)
		}
	})
}

// wrongEvents are those that may not be, by one field each.
func wrongEvents(e api.Event) []api.Event {
	return slices.DeleteFunc(fieldsChanged(e), eventOK)
}

// T4: an event that may not be, wherever it stands, ahead of all that does not lead.
func TestVerifyWrongEvent(t *testing.T) {
	for _, size := range sizes() {
		c, l := someTrail(40, size)
		for n := range size {
			for _, e := range wrongEvents(l[n]) {
				x := slices.Clone(l)
				x[n] = e
				wantVerify(t, "an event that may not be", c, x, api.ErrTrailField)
			}
			x := slices.Clone(l)
			x[n].Kind = 10
			if other := (n + 1) % size; other != n {
				wantVerify(t, "and one too few", c, slices.Delete(slices.Clone(x), other, other+1), api.ErrTrailField)
			}
			wantVerify(t, "and one too many ahead", c, slices.Concat([]api.Event{some(3)}, x), api.ErrTrailField)
			other := c
			other.NextHash = digest(5)
			wantVerify(t, "and another digest", other, x, api.ErrTrailField)
		}
		wantVerify(t, "one too many that may not be", c, append(slices.Clone(l), api.Event{}), api.ErrTrailField)
		far := slices.Concat(l, slices.Repeat([]api.Event{some(9)}, 5000))
		wantVerify(t, "far too many", c, far, api.ErrTrailChain)
		wantVerify(t, "far too many, the last of which may not be", c, append(far, api.Event{}), api.ErrTrailField)
	}
}

// T4: too few, too many.
func TestVerifyCount(t *testing.T) {
	overTrails(func(c api.Chain, l []api.Event) {
		for n := range l {
			wantVerify(t, "one too few", c, slices.Delete(slices.Clone(l), n, n+1), api.ErrTrailChain)
			wantVerify(t, "one of them twice", c, slices.Insert(slices.Clone(l), n, l[n]), api.ErrTrailChain)
		}
		wantVerify(t, "one too many", c, append(slices.Clone(l), some(min(c.Next, lastID))), api.ErrTrailChain)
		if len(l) > 0 {
			wantVerify(t, "no events", c, nil, api.ErrTrailChain)
			wantVerify(t, "the same row twice", c, slices.Concat(l, l), api.ErrTrailChain)
		}
	})
}

// T4: the right number of events, all of whose digests fit, behind a chain that counts otherwise.
func TestVerifyOtherEnds(t *testing.T) {
	overTrails(func(c api.Chain, l []api.Event) {
		for _, by := range []int{-2, -1, 1, 2} {
			base, next, both := c, c, c
			base.Base += by
			next.Next += by
			both.Base, both.Next = both.Base+by, both.Next+by
			for _, x := range []api.Chain{base, next, both} {
				if want := verified(x, l); want != api.OK {
					wantVerify(t, "other ends", x, l, want)
				} else if len(l) > 0 {
					t.Fatal("the test is wrong")
				}
			}
		}
	})
	for _, base := range bases() {
		c, _ := someTrail(base, 0)
		c.Base, c.Next = c.Base+1, c.Next+1
		wantVerify(t, "no events, anywhere", c, nil, api.OK)
	}
}

// T4: two of them changed about.
func TestVerifyOrder(t *testing.T) {
	for _, size := range []int{2, 3, 32} {
		c, l := someTrail(8, size)
		for a := range size {
			for b := range a {
				x := slices.Clone(l)
				x[a], x[b] = x[b], x[a]
				wantVerify(t, "two changed about", c, x, api.ErrTrailChain)
				x[a].Number, x[b].Number = x[b].Number, x[a].Number
				wantVerify(t, "two changed about but for their numbers", c, x, api.ErrTrailChain)
			}
		}
		slices.Reverse(l)
		wantVerify(t, "the other way round", c, l, api.ErrTrailChain)
	}
}

// T4: the numbers count, also where the digests fit.
func TestVerifyNumbers(t *testing.T) {
	for _, size := range []int{1, 2, 32} {
		for n := range size {
			for _, number := range []int{1, 7, 8, 9 + size, 100, lastID} {
				c, l := someTrail(8, size)
				if l[n].Number = number; number == 9+n {
					continue
				}
				wantVerify(t, "a number", c, l, api.ErrTrailChain)
				c.NextHash = shaAlong(c.BaseHash, l)
				wantVerify(t, "a number, and the digest of that", c, l, api.ErrTrailChain)
			}
		}
		c, l := someTrail(8, size)
		for n := range l {
			l[n].Number++
		}
		c.NextHash = shaAlong(c.BaseHash, l)
		wantVerify(t, "all numbers", c, l, api.ErrTrailChain)
	}
}

// bent is a text with one bit changed.
func bent(s string, bit int) string {
	b := []byte(s)
	b[bit/8] ^= 1 << (bit % 8)
	return string(b)
}

// T4: each bit of both digests counts.
func TestVerifyDigests(t *testing.T) {
	for _, size := range []int{0, 1, 32} {
		c, l := someTrail(8, size)
		for bit := range 256 {
			x, y := c, c
			x.BaseHash = bent(c.BaseHash, bit)
			wantVerify(t, "another BaseHash", x, l, api.ErrTrailChain)
			y.NextHash = bent(c.NextHash, bit)
			wantVerify(t, "another NextHash", y, l, api.ErrTrailChain)
		}
		c.BaseHash, c.NextHash = c.NextHash, c.BaseHash
		if size > 0 {
			wantVerify(t, "the one for the other", c, l, api.ErrTrailChain)
		}
	}
}

// T4, T6: each field of each event counts.
func TestVerifyFields(t *testing.T) {
	for _, size := range []int{1, 2, 32} {
		c, l := someTrail(8, size)
		for n := range size {
			for _, e := range fieldsChanged(l[n]) {
				if e == l[n] || !eventOK(e) {
					continue
				}
				x := slices.Clone(l)
				x[n] = e
				wantVerify(t, "a field", c, x, api.ErrTrailChain)
			}
		}
	}
}
