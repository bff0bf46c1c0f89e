package view_test

import (
	"testing"

	"latchkey/api"
	"latchkey/view"
)

// V1: a view is to be had as long as fewer than 4 pins stand, whoever has them.
func TestTake(t *testing.T) {
	for pins := range 4 {
		s := abd(t)
		for range pins {
			_, errno := s.p.Pin()
			wantErrno(t, "Pin", errno, api.OK)
		}
		var views []*view.View
		for range 4 - pins {
			views = append(views, taken(t, s.p))
		}
		wantNoTake(t, s.p, api.ErrPagerPins)
		wantNoTake(t, s.p, api.ErrPagerPins)
		if _, errno := s.p.Pin(); errno != api.ErrPagerPins {
			t.Fatalf("Pin: %d", errno)
		}
		wantErrno(t, "Close", views[0].Close(), api.OK)
		wantCount(t, taken(t, s.p), 3, api.OK)
		wantNoTake(t, s.p, api.ErrPagerPins)
	}
}

// V1: no view of a disk that is dead, nor of a pager in doubt; that comes ahead of the pins.
func TestTakeDead(t *testing.T) {
	for _, pins := range []int{0, 3, 4} {
		s := abd(t)
		for range pins {
			taken(t, s.p)
		}
		dead(t, s.d)
		wantNoTake(t, s.p, api.ErrDead)
		wantDoubt(t, s.p, true)
		wantErrno(t, "Crash", s.d.Crash(nil), api.OK)
		wantNoTake(t, s.p, api.ErrDead)
		wantLoops(t, taken(t, mounted(t, s.d).p), "", "", pairs("a", "1", "b", "2", "d", "4"))
	}
}

// V1: taking and closing does no act, and is no doubt.
func TestTakeActsNot(t *testing.T) {
	s := abd(t)
	acts, generation := s.d.Acts(), s.p.Generation()
	v := taken(t, s.p)
	wantCount(t, v, 3, api.OK)
	wantLoops(t, v, "d", "", pairs("d", "4"))
	wantSeek(t, v, "", true, api.OK)
	wantErrno(t, "Close", v.Close(), api.OK)
	if s.d.Acts() != acts || s.p.Generation() != generation || s.p.Doubt() {
		t.Fatal("a view has done something to what stands")
	}
}

// V1: of the store that Format lays down there is a view, too, and it stays empty.
func TestTakeOfNothing(t *testing.T) {
	s := began(t, 8)
	v := taken(t, s.p)
	wantNote(t, v, m16)
	s.change(t, "a", "1")
	wantCount(t, v, 0, api.OK)
	wantGet(t, v, "a", "", false, api.OK)
	wantLoops(t, v, "", "", nil)
	wantSeek(t, v, "", false, api.OK)
	wantHeld(t, s.p, 0)
	for range 3 {
		taken(t, s.p)
	}
	wantNoTake(t, s.p, api.ErrPagerPins)
}

// V1: what is changed and not committed is none of a view.
func TestTakeAmidChanges(t *testing.T) {
	s := abd(t)
	wantErrno(t, "Put", s.x.Put("c", "3"), api.OK)
	_, errno := s.x.Delete("a")
	wantErrno(t, "Delete", errno, api.OK)
	v := taken(t, s.p)
	wantLoops(t, v, "", "", pairs("a", "1", "b", "2", "d", "4"))
	wantErrno(t, "Commit", s.x.Commit(m16), api.OK)
	wantLoops(t, v, "", "", pairs("a", "1", "b", "2", "d", "4"))
	wantLoops(t, taken(t, s.p), "", "", pairs("b", "2", "c", "3", "d", "4"))
}

// V1: Note is that of the commit that a view is of, behind later ones, of a closed view, and on a dead disk; it asks no disk.
func TestNote(t *testing.T) {
	s := abd(t)
	first := taken(t, s.p)
	wantNote(t, first, n16)
	notes := []string{"\x00\xff a note of 16!", m16, "0123456789abcdef"}
	for _, note := range notes {
		wantErrno(t, "Commit", s.x.Commit(note), api.OK)
		v := taken(t, s.p)
		wantNote(t, v, note)
		wantNote(t, first, n16)
		wantErrno(t, "Commit", s.x.Commit(m16), api.OK)
		wantNote(t, v, note)
		wantErrno(t, "Close", v.Close(), api.OK)
		wantErrno(t, "Commit", s.x.Commit(n16), api.OK)
		wantNote(t, v, note)
	}
	wantErrno(t, "Commit", s.x.Commit(m16), api.OK)
	dead(t, s.d)
	wantNote(t, first, n16)
	wantDoubt(t, s.p, false)
	wantErrno(t, "Close", first.Close(), api.ErrDead)
	wantNote(t, first, n16)
}

// V1: a view is closed once; its pin is no more then, and it has nothing any more.
func TestClose(t *testing.T) {
	s := abd(t)
	v, other := taken(t, s.p), taken(t, s.p)
	s.change(t, "a", "9")
	wantHeld(t, s.p, 1)
	wantErrno(t, "Close", v.Close(), api.OK)
	wantHeld(t, s.p, 1)
	wantErrno(t, "Unpin", s.p.Unpin(1), api.ErrPagerPins)
	for range 3 {
		wantRefused(t, v, api.ErrViewClosed, api.ErrViewClosed)
	}
	wantGet(t, other, "a", "1", true, api.OK)
	wantErrno(t, "Close", other.Close(), api.OK)
	wantHeld(t, s.p, 0)
	wantErrno(t, "Unpin", s.p.Unpin(2), api.ErrPagerPins)
	wantRefused(t, v, api.ErrViewClosed, api.ErrViewClosed)
}

// V1: a closed view has nothing to do with one that has got its pin's number.
func TestCloseTwice(t *testing.T) {
	s := abd(t)
	v := taken(t, s.p)
	wantErrno(t, "Close", v.Close(), api.OK)
	next := taken(t, s.p)
	s.change(t, "a", "-")
	wantErrno(t, "Close", v.Close(), api.ErrViewClosed)
	wantHeld(t, s.p, 1)
	wantGet(t, next, "a", "1", true, api.OK)
	wantErrno(t, "Close", next.Close(), api.OK)
	wantErrno(t, "Close", next.Close(), api.ErrViewClosed)
	wantHeld(t, s.p, 0)
}

// V1: on a dead disk a view is not closed; and it never is, for the pager is in doubt.
func TestCloseDead(t *testing.T) {
	s := abd(t)
	v, closed := taken(t, s.p), taken(t, s.p)
	wantErrno(t, "Close", closed.Close(), api.OK)
	dead(t, s.d)
	wantErrno(t, "Close", closed.Close(), api.ErrViewClosed)
	wantDoubt(t, s.p, false) // a closed view asks no disk
	wantErrno(t, "Close", v.Close(), api.ErrDead)
	wantDoubt(t, s.p, true)
	wantErrno(t, "Close", v.Close(), api.ErrDead)
	wantRefused(t, closed, api.ErrViewClosed, api.ErrViewClosed)
	wantErrno(t, "Crash", s.d.Crash(nil), api.OK)
	wantRefused(t, v, api.ErrDead, api.ErrTreeKey)
	wantRefused(t, closed, api.ErrViewClosed, api.ErrViewClosed)
}

// V1: a death that nobody was told of, and a crash that takes nothing away, change nothing for a view.
func TestDeathUntold(t *testing.T) {
	s := abd(t)
	v := taken(t, s.p)
	dead(t, s.d)
	wantErrno(t, "Crash", s.d.Crash(nil), api.OK)
	wantLoops(t, v, "", "", pairs("a", "1", "b", "2", "d", "4"))
	wantErrno(t, "Close", v.Close(), api.OK)
	wantDoubt(t, s.p, false)
}

// V1: a pin that somebody else has taken away is no more: the view is closed all the same.
func TestCloseWithoutPin(t *testing.T) {
	s := abd(t)
	v := taken(t, s.p)
	wantErrno(t, "Unpin", s.p.Unpin(1), api.OK)
	wantErrno(t, "Close", v.Close(), api.OK)
	wantErrno(t, "Close", v.Close(), api.ErrViewClosed)
}

// V2, V4: on a dead disk each call answers ErrDead, whether it would have to read or not, and the pager is in doubt from then on.
func TestDead(t *testing.T) {
	for name, ask := range map[string]func(v *view.View) api.Errno{
		"Get":   func(v *view.View) api.Errno { _, _, errno := v.Get("a"); return errno },
		"Count": func(v *view.View) api.Errno { _, errno := v.Count(); return errno },
		"Seek":  func(v *view.View) api.Errno { _, errno := v.Seek(""); return errno },
		"Next":  func(v *view.View) api.Errno { _, errno := v.Next(); return errno },
		"Prev":  func(v *view.View) api.Errno { _, errno := v.Prev(); return errno },
		"Here":  func(v *view.View) api.Errno { _, errno := v.Here(); return errno },
		"Close": func(v *view.View) api.Errno { return v.Close() },
		"Up":    func(v *view.View) api.Errno { given(v.Up("", "")); return api.ErrDead },
		"Down":  func(v *view.View) api.Errno { given(v.Down("z", "a")); return api.ErrDead },
	} {
		for _, l := range [][]api.Pair{nil, pairs("a", "1"), remote(9)} {
			for _, sought := range []bool{false, true} {
				s := having(t, 40, l)
				v := taken(t, s.p)
				wantSeek(t, v, "", len(l) > 0, api.OK)
				if !sought {
					wantSeek(t, v, "z", false, api.OK)
				}
				dead(t, s.d)
				wantErrno(t, name, ask(v), api.ErrDead)
				wantDoubt(t, s.p, true)
				wantRefused(t, v, api.ErrDead, api.ErrTreeKey)
				wantErrno(t, "Crash", s.d.Crash(nil), api.OK)
				wantErrno(t, name, ask(v), api.ErrDead)
				wantRefused(t, v, api.ErrDead, api.ErrTreeKey)
			}
		}
	}
}
