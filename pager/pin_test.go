package pager_test

import (
	"testing"

	"latchkey/api"
)

// G8: four pins and no fifth; numbers are given again, the least one first.
func TestPins(t *testing.T) {
	d, p := grown(t)
	was := stateOf(d)
	for n := 1; n <= 4; n++ {
		wantPin(t, p, n, api.OK)
	}
	wantPin(t, p, 0, api.ErrPagerPins)
	for _, l := range [][]int{{1}, {4}, {2, 3}, {3, 2}, {4, 1, 3}, {3, 1, 4, 2}} {
		for _, n := range l {
			wantErrno(t, "Unpin", p.Unpin(n), api.OK)
			wantErrno(t, "Unpin again", p.Unpin(n), api.ErrPagerPins)
		}
		for n := 1; n <= 4; n++ {
			for _, m := range l {
				if n == m {
					wantPin(t, p, n, api.OK)
				}
			}
		}
		wantPin(t, p, 0, api.ErrPagerPins)
	}
	wantUntouched(t, "Pin", d, was)
	wantRoom(t, p, 3, 0)
}

// G8: numbers that no pin has.
func TestUnpinRefused(t *testing.T) {
	_, p := grown(t)
	wrong := []int{0, -1, 5, 6, 7, 8, 9, 16, 63, 64, 65, 256, 257, 4095, least, least + 1, most, 1<<32 + 1}
	for n := range 5 {
		for _, pin := range wrong {
			wantErrno(t, "Unpin", p.Unpin(pin), api.ErrPagerPins)
		}
		for pin := n + 1; pin <= 4; pin++ {
			wantErrno(t, "Unpin", p.Unpin(pin), api.ErrPagerPins)
		}
		if n < 4 {
			wantPin(t, p, n+1, api.OK)
		}
	}
}

// G8: a pin of an empty store stands, though it keeps nothing.
func TestPinOfNothing(t *testing.T) {
	_, p := laid(t)
	for n := 1; n <= 4; n++ {
		wantPin(t, p, n, api.OK)
	}
	wantPin(t, p, 0, api.ErrPagerPins)
	wantCommit(t, p, []api.Page{page(2, "a")}, 2, n16, nil, api.OK)
	wantCommit(t, p, nil, 0, n16, []int{2}, api.OK)
	wantRoom(t, p, 6, 0)
	wantErrno(t, "Unpin", p.Unpin(2), api.OK)
	wantPin(t, p, 2, api.OK)
}

// G8: what is held is held until the last pin that keeps it stands no more.
func TestPinsKeep(t *testing.T) {
	_, p := grown(t)
	wantPin(t, p, 1, api.OK) // keeps 2, 3, 4
	wantCommit(t, p, []api.Page{page(5, "five", 2)}, 5, n16, []int{3, 4}, api.OK)
	wantPin(t, p, 2, api.OK) // keeps 2, 5
	wantRoom(t, p, 2, 2)
	wantCommit(t, p, nil, 0, n16, []int{2, 5}, api.OK)
	wantRoom(t, p, 2, 4)
	wantPin(t, p, 3, api.OK) // keeps nothing
	wantNext(t, p, 6, 7)
	wantErrno(t, "Unpin", p.Unpin(1), api.OK)
	wantRoom(t, p, 4, 2)
	wantNext(t, p, 3, 4, 6, 7)
	wantRead(t, p, born(page(2, "two"), 2))
	wantNoRead(t, p, 3, api.ErrPagerNone)
	wantErrno(t, "Unpin", p.Unpin(3), api.OK)
	wantRoom(t, p, 4, 2)
	wantErrno(t, "Unpin", p.Unpin(2), api.OK)
	wantRoom(t, p, 6, 0)
	wantNext(t, p, 2, 3, 4, 5, 6, 7)
}

// G8: two pins of one commit keep the same, each for itself; what is reached still is not held.
func TestPinsOfOneCommit(t *testing.T) {
	_, p := grown(t)
	wantPin(t, p, 1, api.OK)
	wantPin(t, p, 2, api.OK)
	wantCommit(t, p, nil, 2, n16, []int{3, 4}, api.OK)
	wantRoom(t, p, 3, 2)
	wantErrno(t, "Unpin", p.Unpin(1), api.OK)
	wantRoom(t, p, 3, 2)
	wantRead(t, p, born(page(4, "four", 2, 3), 3))
	wantErrno(t, "Unpin", p.Unpin(2), api.OK)
	wantRoom(t, p, 5, 0)
	wantRead(t, p, born(page(2, "two"), 2))
}

// G8: a pin that is given again keeps what is reached then, nothing of what its number kept ahead.
func TestPinGivenAgain(t *testing.T) {
	_, p := grown(t)
	wantPin(t, p, 1, api.OK)
	wantErrno(t, "Unpin", p.Unpin(1), api.OK)
	wantCommit(t, p, nil, 2, n16, []int{3, 4}, api.OK)
	wantPin(t, p, 1, api.OK)
	wantCommit(t, p, nil, 0, n16, []int{2}, api.OK)
	wantRoom(t, p, 5, 1)
	wantNext(t, p, 3, 4, 5, 6, 7)
}

// G8: what a pin holds has no room for others.
func TestPinsFill(t *testing.T) {
	_, p := laid(t)
	last := 0
	for n := 2; n <= 5; n++ {
		var gone []int
		if last > 0 {
			gone = []int{last}
		}
		wantCommit(t, p, []api.Page{page(n, "a")}, n, n16, gone, api.OK)
		wantPin(t, p, n-1, api.OK)
		last = n
	}
	wantCommit(t, p, []api.Page{page(6, "a"), page(7, "b", 6)}, 7, n16, []int{5}, api.OK)
	wantRoom(t, p, 0, 4)
	wantNoNext(t, p, 1, api.ErrPagerFull)
	wantCommit(t, p, []api.Page{page(2, "a")}, 2, n16, []int{6, 7}, api.ErrPagerPage)
	wantErrno(t, "Unpin", p.Unpin(3), api.OK)
	wantNext(t, p, 4)
	wantCommit(t, p, []api.Page{page(4, "c")}, 4, n16, []int{6, 7}, api.OK)
	for n, generation := range map[int]int{2: 2, 3: 3, 5: 5} {
		wantRead(t, p, born(page(n, "a"), generation))
	}
}

// G8: pins are a pager's own, and no pin is left when a store is opened anew.
func TestPinsAreNotOnDisk(t *testing.T) {
	d, p := grown(t)
	was := stateOf(d)
	wantPin(t, p, 1, api.OK)
	wantUntouched(t, "Pin", d, was)
	wantCommit(t, p, nil, 2, n16, []int{3, 4}, api.OK)
	q := mounted(t, d)
	wantRoom(t, p, 3, 2)
	wantRoom(t, q, 5, 0)
	wantNoRead(t, q, 3, api.ErrPagerNone)
	wantErrno(t, "Unpin", q.Unpin(1), api.ErrPagerPins)
}
