package table_test

import (
	"testing"

	"latchkey/api"
)

// More pairs than a tree gives at once: 4096.

// B6: events, whether they stand, were begun, or both.
func TestManyEvents(t *testing.T) {
	t.Parallel()
	_, x := began(t, 4096)
	wantEvents := func(first, last int) {
		t.Helper()
		l, errno := x.Events()
		if errno != api.OK || len(l) != last-first+1 {
			t.Fatalf("%d events, %d; want %d", len(l), errno, last-first+1)
		}
		for n, e := range l {
			if e.Number != first+n {
				t.Fatalf("the event %d at %d", e.Number, n)
			}
		}
	}
	last := 0
	for _, many := range []int{4095, 4096, 4097, 8191, 8192, 8193} {
		for last < many {
			last++
			wantErrno(t, "PutEvent", x.PutEvent(someEvent(last)), api.OK)
		}
		wantEvents(1, last)
		wantErrno(t, "Commit", x.Commit(), api.OK)
		wantEvents(1, last)
	}
	for n := range 10 {
		wantErrno(t, "RemoveEvent", x.RemoveEvent(1+n), api.OK)
		wantErrno(t, "PutEvent", x.PutEvent(someEvent(last+1+n)), api.OK)
		wantEvents(2+n, last+1+n)
	}
}

// B6: families of one subject, of one end; the first ones of them.
func TestManyFamilies(t *testing.T) {
	t.Parallel()
	const many = 4100
	_, x := began(t, 4096)
	for n := range many {
		f := endedFamily(many-n, 1, 100, "a")
		f.Client, f.Scope = "a", nil
		wantErrno(t, "PutFamily", x.PutFamily(f), api.OK)
	}
	for _, committed := range []bool{false, true} {
		if committed {
			wantErrno(t, "Commit", x.Commit(), api.OK)
		}
		for most, want := range map[int]int{0: 0, 1: 1, 4095: 4095, 4096: 4096, 4097: 4097, many: many, many + 1: many, most: many} {
			wantRising(t, "Ending", want, func() ([]int, api.Errno) { return x.Ending(101, most) })
		}
		wantRising(t, "Ending", 0, func() ([]int, api.Errno) { return x.Ending(100, most) })
		wantRising(t, "Subject", many, func() ([]int, api.Errno) { return x.Subject("a") })
	}
	wantErrno(t, "Remove", x.Remove(1), api.OK)
	wantErrno(t, "Remove", x.Remove(4096), api.OK)
	l, errno := x.Ending(101, 4096)
	if errno != api.OK || len(l) != 4096 || l[0] != 2 || l[4093] != 4095 || l[4094] != 4097 {
		t.Fatalf("%d, %d: %d, %d", len(l), errno, l[0], l[4094])
	}
}

// wantRising is that a call answers the numbers from 1 on, so many.
func wantRising(t *testing.T, what string, many int, do func() ([]int, api.Errno)) {
	t.Helper()
	l, errno := do()
	if errno != api.OK || len(l) != many {
		t.Fatalf("%s: %d of them, %d; want %d", what, len(l), errno, many)
	}
	for n, id := range l {
		if id != n+1 {
			t.Fatalf("%s: %d at %d", what, id, n)
		}
	}
}

// B2, B6, B8: a family of many generations: its tokens, as they stand and opened anew; mended; taken away.
func TestManyTokens(t *testing.T) {
	t.Parallel()
	const many = 4100
	l := lists{next: many + 10, families: []api.Family{someFamily(many+9, many, 0, "ann")}}
	l.families[0].Gen = many
	for n := range many {
		k := spent(n+1, many+9, n+1, n+2)
		if n+1 == many {
			k = current(n+1, many+9, n+1)
		}
		l.tokens = append(l.tokens, k)
	}
	d := built(t, 4096, l, 5000)
	x := wantStands(t, "many tokens", d, l, 5000)
	got, errno := x.Tokens(many + 9)
	if !same(got, l.tokens) || errno != api.OK {
		t.Fatalf("%d tokens, %d", len(got), errno)
	}
	pairs := l.pairs(t)
	without("m")(pairs)
	change(t, d, pairs)
	x = opened(t, d)
	wantStands(t, "mended", d, l, 5000)
	wantErrno(t, "Remove", x.Remove(many+9), api.OK)
	wantErrno(t, "Commit", x.Commit(), api.OK)
	wantStands(t, "taken away", d, lists{next: l.next}, 5000)
	if x.Pager().Root() != 0 || x.Pager().Free() != 4094 {
		t.Errorf("the root %d, %d are free", x.Pager().Root(), x.Pager().Free())
	}
}
