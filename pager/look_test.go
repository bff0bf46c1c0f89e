package pager_test

import (
	"slices"
	"testing"

	"latchkey/api"
)

// G5: what a pager tells of itself, as commits go by.
func TestTold(t *testing.T) {
	d, p := laid(t)
	wantLast(t, p, 1, 0, n16)
	wantRoom(t, p, 6, 0)
	wantCommit(t, p, []api.Page{page(2, "two"), page(3, "three")}, 2, m16, nil, api.OK)
	wantLast(t, p, 2, 2, m16, 2, 3)
	wantRoom(t, p, 4, 0)
	wantPin(t, p, 1, api.OK)
	wantCommit(t, p, []api.Page{page(4, "four")}, 4, n16, []int{2, 3}, api.OK)
	wantLast(t, p, 3, 4, n16, 4)
	wantRoom(t, p, 3, 2)
	wantCommit(t, p, nil, 0, m16, []int{4}, api.OK)
	wantLast(t, p, 4, 0, m16)
	wantRoom(t, p, 4, 2)
	if p.Size() != d.Size() || p.Doubt() {
		t.Errorf("Size: %d, Doubt: %v", p.Size(), p.Doubt())
	}
}

// G5: these calls ask no disk, and change nothing: a dead one brings no doubt by them, and in doubt they say what they said.
func TestToldOfADeadDisk(t *testing.T) {
	d, p := grown(t)
	wantPin(t, p, 1, api.OK)
	wantCommit(t, p, []api.Page{page(5, "five", 2, 3)}, 5, n16, []int{4}, api.OK)
	told := func(doubt bool) {
		t.Helper()
		for range 2 {
			wantLast(t, p, 4, 5, n16, 2, 3, 5)
			wantRoom(t, p, 2, 1)
			if p.Size() != 8 || p.Doubt() != doubt {
				t.Fatalf("Size: %d, Doubt: %v", p.Size(), p.Doubt())
			}
		}
	}
	told(false)
	kill(t, d)
	was := stateOf(d)
	told(false)
	wantNoNext(t, p, 0, api.ErrDead)
	told(true)
	wantUntouched(t, "telling", d, was)
	revive(t, d)
	told(true)
	wantNoNext(t, p, 0, api.ErrDead)
}

// G6: Next, from none to all that are free, and one more.
func TestNext(t *testing.T) {
	d, p := grown(t)
	was := stateOf(d)
	for range 2 {
		wantNext(t, p)
		wantNext(t, p, 5)
		wantNext(t, p, 5, 6)
		wantNext(t, p, 5, 6, 7)
		for _, k := range []int{4, 5, 8, 4096, most} {
			wantNoNext(t, p, k, api.ErrPagerFull)
		}
		for _, k := range []int{-1, -2, least, least + 1} {
			wantNoNext(t, p, k, api.ErrArg)
		}
	}
	wantUntouched(t, "Next", d, was)
	wantRoom(t, p, 3, 0)
}

// G6: the free pages need not stand side by side; when none is left, Next(0) is answered still.
func TestNextBetween(t *testing.T) {
	_, p := grown(t)
	wantCommit(t, p, nil, 3, n16, []int{2, 4}, api.OK)
	wantNext(t, p, 2, 4, 5, 6, 7)
	wantNoNext(t, p, 6, api.ErrPagerFull)
	var l []api.Page
	for _, n := range []int{2, 4, 5, 6, 7} {
		l = append(l, page(n, "full"))
	}
	wantCommit(t, p, l, 3, n16, nil, api.OK)
	wantNext(t, p)
	wantNoNext(t, p, 1, api.ErrPagerFull)
	wantRoom(t, p, 0, 0)
}

// G6: Read of what is reached, held, free, and of no block.
func TestRead(t *testing.T) {
	d, p := grown(t)
	wantPin(t, p, 1, api.OK)
	wantCommit(t, p, []api.Page{page(5, "five", 2)}, 5, n16, []int{3, 4}, api.OK)
	was := stateOf(d)
	for range 2 {
		wantRead(t, p, born(page(2, "two"), 2))
		wantRead(t, p, born(page(3, "three"), 2))
		wantRead(t, p, born(page(4, "four", 2, 3), 3))
		wantRead(t, p, born(page(5, "five", 2), 4))
		for _, n := range []int{6, 7, 8, 9, 0, 1, -1, -2, 4095, 4096, 1<<32 + 2, least, least + 2, most} {
			wantNoRead(t, p, n, api.ErrPagerNone)
		}
	}
	wantUntouched(t, "Read", d, was)
	wantErrno(t, "Unpin", p.Unpin(1), api.OK)
	wantNoRead(t, p, 3, api.ErrPagerNone)
	wantNoRead(t, p, 4, api.ErrPagerNone)
	wantRead(t, p, born(page(2, "two"), 2))
}

// G6: a page is free though one stands on its block, if nobody reaches it.
func TestReadUnreached(t *testing.T) {
	p := mounted(t, loaded(t, stored(3, 2, page(2, "a"), page(3, "b"))))
	wantNoRead(t, p, 3, api.ErrPagerNone)
	wantNext(t, p, 3)
}

// G6: pages of all shapes are read as they were committed, but for their Birth.
func TestReadShapes(t *testing.T) {
	for _, x := range []api.Page{
		{Kind: 1, Number: 2, Birth: 77},
		{Kind: 255, Number: 2, Birth: -1, Body: body(488)},
		{Kind: 9, Number: 2, Links: slices.Repeat([]int{2}, 122)},
		{Kind: 9, Number: 2, Links: []int{2, 2}, Body: noughts[:480]},
	} {
		d := loaded(t, stored(1, 0))
		p := mounted(t, d)
		wantCommit(t, p, []api.Page{x}, 2, n16, nil, api.OK)
		wantRead(t, p, born(x, 2))
		if d.Blocks()[2] != blockOf(born(x, 2)) {
			t.Errorf("another block stands there of %v", x)
		}
	}
}
