package view_test

import (
	"fmt"
	"maps"
	"math/rand"
	"slices"
	"testing"

	"latchkey/api"
	"latchkey/view"
)

// change puts, deletes, commits, forgets, behind all views.
func (w *play) change() {
	w.t.Helper()
	if w.dead || w.doubt {
		return
	}
	switch n := w.r.Intn(12); {
	case n < 6:
		key, value := w.style.keys(w.r), val(w.r.Intn(w.style.value+1))
		wantErrno(w.t, "Put", w.x.Put(key, value), api.OK)
		w.has[key] = value
	case n < 9:
		keys := append(slices.Sorted(maps.Keys(w.has)), w.style.keys(w.r))
		key := keys[w.r.Intn(len(keys))]
		_, errno := w.x.Delete(key)
		wantErrno(w.t, "Delete", errno, api.OK)
		delete(w.has, key)
	case n < 11:
		w.commit()
	default:
		w.x.Abort()
		w.has = maps.Clone(w.stands)
	}
}

// commit commits, if there is room.
func (w *play) commit() {
	w.t.Helper()
	note := fmt.Sprintf("%016d", w.r.Intn(1000))
	switch errno := w.x.Commit(note); errno {
	case api.OK:
		w.note, w.stands = note, maps.Clone(w.has)
	case api.ErrPagerFull:
		w.x.Abort()
		w.has = maps.Clone(w.stands)
	default:
		w.t.Fatalf("Commit: %d", errno)
	}
}

// pin takes or gives back a pin that belongs to no view.
func (w *play) pin() {
	w.t.Helper()
	if w.dead || w.doubt {
		return
	}
	for pin := range w.pins {
		wantErrno(w.t, "Unpin", w.p.Unpin(pin), api.OK)
		delete(w.pins, pin)
		return
	}
	if pin, errno := w.p.Pin(); errno == api.OK {
		w.pins[pin] = true
	} else if w.open() < 4 {
		w.t.Fatalf("Pin: %d, though %d views are open", errno, w.open())
	}
}

// die lets the disk die, or brings it back; nothing is pending, so that a crash takes nothing away.
func (w *play) die() {
	w.t.Helper()
	if !w.dead {
		dead(w.t, w.d)
	} else {
		wantErrno(w.t, "Crash", w.d.Crash(nil), api.OK)
	}
	w.dead = !w.dead
}

// look asks one view something.
func (w *play) look(deep int) {
	w.t.Helper()
	if len(w.views) == 0 {
		return
	}
	s := w.views[w.r.Intn(len(w.views))]
	switch w.r.Intn(14) {
	case 0:
		wantNote(w.t, s.v, s.note)
	case 1, 2:
		s.get(w.t, w.style.text(w.r))
	case 3:
		s.count(w.t)
	case 4, 5:
		s.seek(w.t, w.style.text(w.r))
	case 6, 7:
		s.next(w.t)
	case 8, 9:
		s.prev(w.t)
	case 10, 11:
		s.here(w.t)
	default:
		s.goOver(w.t, w.style.text(w.r), w.style.text(w.r), w.r.Intn(2) == 0, func() {
			for deep < 2 && w.r.Intn(3) == 0 {
				w.act(deep + 1)
			}
		})
	}
}

// act does one thing or another.
func (w *play) act(deep int) {
	w.t.Helper()
	switch n := w.r.Intn(100); {
	case n < 40:
		w.change()
	case n < 90:
		w.look(deep)
	case n < 94:
		w.take()
	case n < 97 && len(w.views) > 0:
		w.views[w.r.Intn(len(w.views))].close(w.t)
	case n < 99:
		w.pin()
	case w.r.Intn(8) == 0 || w.dead:
		w.die()
	}
	wantDoubt(w.t, w.p, w.doubt)
}

// end closes all views, and looks at what the pager holds then.
func (w *play) end() {
	w.t.Helper()
	for _, s := range w.views {
		s.close(w.t)
	}
	if w.doubt {
		return
	}
	if len(w.pins) == 0 {
		wantHeld(w.t, w.p, 0)
	}
	for pin := range w.pins {
		wantErrno(w.t, "Unpin", w.p.Unpin(pin), api.OK)
	}
	wantHeld(w.t, w.p, 0)
	if w.p.Free() != w.p.Size()-2-len(w.p.Reached()) {
		w.t.Fatalf("%d pages are free", w.p.Free())
	}
}

// V1 to V5, P10: whatever is done behind views, and within loops over them, they tell what was committed when they were taken.
func TestScripts(t *testing.T) {
	t.Parallel()
	for seed, style := range slices.Repeat(styles(), 60) {
		r := rand.New(rand.NewSource(int64(seed)))
		w := newPlay(t, r, style, []int{12, 60, 300}[r.Intn(3)])
		for range r.Intn(200) {
			w.change()
		}
		for range 250 {
			w.act(0)
		}
		w.end()
	}
}

// V5: views of a store go on to be refused when that is mounted anew behind a death; those of the new one are right.
func TestScriptsMountedAnew(t *testing.T) {
	t.Parallel()
	for seed, style := range slices.Repeat(styles(), 15) {
		r := rand.New(rand.NewSource(int64(1000 + seed)))
		w := newPlay(t, r, style, 100)
		var old []*view.View
		for range 4 {
			for range 120 {
				w.act(0)
			}
			if !w.dead {
				w.die()
			}
			w.ask()
			wantNoTake(t, w.p, api.ErrDead)
			for _, s := range w.views {
				if !s.closed {
					old = append(old, s.v)
				}
			}
			w.die()
			w.views = nil
			w.begin(mounted(t, w.d))
			for _, v := range old {
				wantRefused(t, v, api.ErrDead, api.ErrTreeKey)
			}
		}
	}
}

// V5: Up and Down give the same pairs, Down the other way round; a cursor that is set by Seek and moved by Next comes by what Up gives, and one that is moved by Prev by what Down gives.
func TestOneOrder(t *testing.T) {
	t.Parallel()
	for seed, style := range slices.Repeat(styles(), 10) {
		r := rand.New(rand.NewSource(int64(2000 + seed)))
		w := newPlay(t, r, style, 300)
		for range 100 + r.Intn(300) {
			w.change()
		}
		v := taken(t, w.p)
		all := given(v.Up("", ""))
		if !slices.Equal(all, rising(w.stands)) {
			t.Fatalf("%v, want %v", all, w.stands)
		}
		for range 20 {
			from, to := style.text(r), style.text(r)
			up := given(v.Up(from, to))
			if down := given(v.Down(from, to)); !slices.Equal(turned(down), up) {
				t.Fatalf("Up(%q, %q): %v; Down: %v", from, to, up, down)
			}
			if l := moved(t, v, from, v.Next); !slices.Equal(l, given(v.Up(from, ""))) {
				t.Fatalf("the cursor from %q on: %v", from, l)
			}
			if l := moved(t, v, from, v.Prev); len(l) > 0 && !slices.Equal(l[1:], given(v.Down("", l[0].Key))) {
				t.Fatalf("the cursor from %q back: %v", from, l)
			}
		}
	}
}

// moved are the pairs by which a cursor comes.
func moved(t *testing.T, v *view.View, from string, move func() (bool, api.Errno)) []api.Pair {
	t.Helper()
	var l []api.Pair
	for is, errno := v.Seek(from); is; is, errno = move() {
		wantErrno(t, "a move", errno, api.OK)
		pair, errno := v.Here()
		wantErrno(t, "Here", errno, api.OK)
		l = append(l, pair)
	}
	return l
}

// V5: when all views are closed, the pages come free with the next commits as in a store that had none.
func TestNothingIsHeld(t *testing.T) {
	t.Parallel()
	r := rand.New(rand.NewSource(70))
	with, without := having(t, 400, remote(60)), having(t, 400, remote(60))
	var views []*view.View
	held := 0
	for round := range 120 {
		for range 1 + r.Intn(20) {
			key, value := far(r.Intn(120)), val(r.Intn(201))
			for _, s := range []*store{with, without} {
				if value == "" || round%3 == 0 {
					s.x.Delete(key)
				} else {
					wantErrno(t, "Put", s.x.Put(key, value), api.OK)
				}
			}
		}
		for _, s := range []*store{with, without} {
			wantErrno(t, "Commit", s.x.Commit(n16), api.OK)
		}
		held += with.p.Held()
		switch {
		case round%10 == 9: // at the end of each ten rounds no view is open
			for _, v := range views {
				wantErrno(t, "Close", v.Close(), api.OK)
			}
			views = nil
			wantHeld(t, with.p, 0)
			if with.p.Free() != without.p.Free() || len(with.p.Reached()) != len(without.p.Reached()) {
				t.Fatalf("%d pages are free, and without views %d", with.p.Free(), without.p.Free())
			}
		case len(views) < 4 && r.Intn(2) == 0:
			views = append(views, taken(t, with.p))
		case len(views) > 0 && r.Intn(3) == 0:
			wantErrno(t, "Close", views[0].Close(), api.OK)
			views = views[1:]
		}
	}
	if held == 0 {
		t.Fatal("no view has held anything")
	}
}

// V5: room that views hold is no room for commits, until they are closed.
func TestViewsHoldRoom(t *testing.T) {
	s := having(t, 8, pairs("a", "0"))
	var views []*view.View
	for i := range 4 {
		views = append(views, taken(t, s.p))
		s.change(t, "a", fmt.Sprint(i+1))
		wantHeld(t, s.p, i+1)
	}
	s.change(t, "a", "5") // the page that this leaves is held by nobody
	wantHeld(t, s.p, 4)
	s.change(t, "a", "6")
	for i, v := range views {
		wantLoops(t, v, "", "", pairs("a", fmt.Sprint(i)))
	}
	for i, n := range []int{2, 0, 3, 1} {
		wantErrno(t, "Close", views[n].Close(), api.OK)
		wantHeld(t, s.p, 3-i)
	}
	if s.p.Free() != 5 {
		t.Fatalf("%d pages are free", s.p.Free())
	}
}
