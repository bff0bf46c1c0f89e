package trail_test

import (
	"slices"
	"testing"

	"latchkey/api"
	"latchkey/trail"
)

// wantGoes is that Goes answers that, and that it is what the document says of it.
func wantGoes(t *testing.T, what string, was, is api.Chain, l []api.Event, want api.Errno) {
	t.Helper()
	if gone(was, is, l) != want {
		t.Fatalf("%s: the test is wrong: %d, and the model says %d", what, want, gone(was, is, l))
	}
	wantErrno(t, what, trail.Goes(was, is, l), want)
}

// moment is what was read of a trail.
type moment struct {
	c api.Chain
	l []api.Event
}

// moments are what is read of a table behind none, one and so on of so many notes.
func moments(t *testing.T, notes int) []moment {
	t.Helper()
	_, x := began(t, 40)
	var all []moment
	for n := range notes + 1 {
		c, l, errno := trail.Read(x)
		wantErrno(t, "Read", errno, api.OK)
		all = append(all, moment{c, l})
		x.See(n)
		wantNote(t, x, 1+n%9, n%5, []string{"", "app", "web"}[n%3], n+1, api.OK)
	}
	return all
}

// T5: each chain that was read against each other one: it goes on from those that are at most 32 events ahead of it.
func TestGoesFromEach(t *testing.T) {
	all := moments(t, 80)
	for a, was := range all {
		for b, is := range all {
			want := api.ErrTrailChain
			if between := b - a; within(between, 0, 32) {
				want = api.OK
			}
			wantGoes(t, "of two that were read", was.c, is.c, is.l, want)
			if a != b {
				wantGoes(t, "with the events of the other one", was.c, is.c, was.l, api.ErrTrailChain)
			}
		}
	}
}

// T5: the edges, one by one.
func TestGoesEdges(t *testing.T) {
	all := moments(t, 100)
	for _, k := range []struct {
		was, is int
		want    api.Errno
	}{
		{0, 0, api.OK}, {0, 1, api.OK}, {0, 31, api.OK}, {0, 32, api.OK}, {0, 33, api.ErrTrailChain},
		{1, 1, api.OK}, {1, 2, api.OK}, {1, 32, api.OK}, {1, 33, api.OK}, {1, 34, api.ErrTrailChain},
		{50, 50, api.OK}, {50, 51, api.OK}, {50, 81, api.OK}, {50, 82, api.OK}, {50, 83, api.ErrTrailChain},
		{1, 0, api.ErrTrailChain}, {51, 50, api.ErrTrailChain}, {100, 50, api.ErrTrailChain}, {100, 0, api.ErrTrailChain},
	} {
		wantGoes(t, "an edge", all[k.was].c, all[k.is].c, all[k.is].l, k.want)
	}
}

// T5: of the earlier chain its Next and its NextHash count, nothing else.
func TestGoesAsksForTheEnd(t *testing.T) {
	all := moments(t, 60)
	is := all[50]
	for n := 18; n <= 50; n++ {
		was := all[n].c
		for _, base := range []int{was.Next - 33, was.Next - 2, was.Next - 1} {
			x := was
			x.Base, x.BaseHash = max(base, 0), digest(n)
			wantGoes(t, "another base", x, is.c, is.l, api.OK)
		}
		for bit := range 256 {
			x := was
			x.NextHash = bent(was.NextHash, bit)
			wantGoes(t, "another NextHash", x, is.c, is.l, api.ErrTrailChain)
		}
		for _, by := range []int{-1, 1} {
			x := was
			x.Base, x.Next = x.Next+by-1, x.Next+by
			wantGoes(t, "another Next", x, is.c, is.l, api.ErrTrailChain)
		}
		x := was
		x.NextHash = is.c.NextHash
		if n < 50 {
			wantGoes(t, "the later one's NextHash", x, is.c, is.l, api.ErrTrailChain)
		}
		x.NextHash = is.c.BaseHash
		if n > 18 {
			wantGoes(t, "the later one's BaseHash", x, is.c, is.l, api.ErrTrailChain)
		}
	}
}

// T5: a Next that is out of the later trail, with each digest that is in it.
func TestGoesOutside(t *testing.T) {
	all := moments(t, 60)
	is := all[50]
	for _, next := range []int{1, 2, 17, 18, 52, 53, 83, 84, 1 << 40, lastID, lastID + 1} {
		for n := 0; n <= 60; n++ {
			was := api.Chain{Base: next - 1, Next: next, BaseHash: noughts, NextHash: all[n].c.NextHash}
			wantGoes(t, "out of the later trail", was, is.c, is.l, api.ErrTrailChain)
		}
	}
}

// T5: at the numbers' end, and at the beginning.
func TestGoesAtTheEnds(t *testing.T) {
	overTrails(func(is api.Chain, l []api.Event) {
		for n := range len(l) + 1 {
			was := api.Chain{Base: is.Base + n, Next: is.Base + n + 1, BaseHash: digest(n), NextHash: shaAlong(is.BaseHash, l[:n])}
			wantGoes(t, "an earlier one", was, is, l, api.OK)
			for _, m := range []int{0, len(l)} {
				if n != m {
					was.NextHash = shaAlong(is.BaseHash, l[:m])
					wantGoes(t, "a digest of another place", was, is, l, api.ErrTrailChain)
				}
			}
		}
		for _, next := range []int{1, is.Base, is.Next + 1, is.Next + 2, lastID + 1} {
			was := api.Chain{Base: next - 1, Next: next, BaseHash: noughts, NextHash: is.NextHash}
			if chainOK(was) && !within(next, is.Base+1, is.Next) {
				wantGoes(t, "out of it", was, is, l, api.ErrTrailChain)
			}
		}
	})
}

// T5: events that do not lead.
func TestGoesThatDoNotLead(t *testing.T) {
	all := moments(t, 40)
	was, is := all[30], all[40]
	for n := range is.l {
		x := slices.Clone(is.l)
		x[n].Time++
		wantGoes(t, "another time", was.c, is.c, x, api.ErrTrailChain)
		wantGoes(t, "one too few", was.c, is.c, slices.Delete(slices.Clone(is.l), n, n+1), api.ErrTrailChain)
		wantGoes(t, "one twice", was.c, is.c, slices.Insert(slices.Clone(is.l), n, is.l[n]), api.ErrTrailChain)
		x = slices.Clone(is.l)
		x[n], x[(n+1)%32] = x[(n+1)%32], x[n]
		wantGoes(t, "two changed about", was.c, is.c, x, api.ErrTrailChain)
	}
	wantGoes(t, "none", was.c, is.c, nil, api.ErrTrailChain)
	for bit := range 256 {
		x := is.c
		x.NextHash = bent(is.c.NextHash, bit)
		wantGoes(t, "another end", was.c, x, is.l, api.ErrTrailChain)
		x = is.c
		x.BaseHash = bent(is.c.BaseHash, bit)
		wantGoes(t, "another base", was.c, x, is.l, api.ErrTrailChain)
	}
}

// T5: a trail that parted from the earlier one is told, though it leads.
func TestGoesParted(t *testing.T) {
	all := moments(t, 20)
	for parted := 1; parted <= 20; parted++ {
		is := all[20]
		other := slices.Clone(is.l)
		other[parted-1].Who = "other"
		c := is.c
		c.NextHash = shaAlong(c.BaseHash, other)
		wantErrno(t, "it leads", trail.Verify(c, other), api.OK)
		for n, was := range all {
			want := api.OK
			if n >= parted {
				want = api.ErrTrailChain
			}
			wantGoes(t, "parted", was.c, c, other, want)
		}
	}
}

// T5: what may not be, of either chain or of one event, is told ahead of all else.
func TestGoesOrderOfErrors(t *testing.T) {
	all := moments(t, 40)
	was, is := all[30], all[40]
	fork := was.c
	fork.NextHash = digest(3)
	for _, x := range wrongChains(was.c) {
		wantGoes(t, "was", x, is.c, is.l, api.ErrTrailField)
		wantGoes(t, "was, and none that lead", x, is.c, nil, api.ErrTrailField)
	}
	for _, x := range wrongChains(is.c) {
		wantGoes(t, "is", was.c, x, is.l, api.ErrTrailField)
		wantGoes(t, "is, and none that lead", was.c, x, nil, api.ErrTrailField)
		wantGoes(t, "is, and another digest", fork, x, is.l, api.ErrTrailField)
	}
	for n := range is.l {
		x := slices.Clone(is.l)
		x[n].Family = -1
		wantGoes(t, "an event", was.c, is.c, x, api.ErrTrailField)
		wantGoes(t, "an event, and another digest", fork, is.c, x, api.ErrTrailField)
		wantGoes(t, "an event, and an earlier chain", was.c, all[20].c, x, api.ErrTrailField)
	}
	wantGoes(t, "one too many that may not be", was.c, is.c, append(slices.Clone(is.l), api.Event{}), api.ErrTrailField)
	wantGoes(t, "nothing at all", api.Chain{}, api.Chain{}, nil, api.ErrTrailField)
}
