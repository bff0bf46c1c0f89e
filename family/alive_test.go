package family_test

import (
	"math/rand"
	"testing"

	"latchkey/api"
	"latchkey/family"
)

// F2: at END less 1, at END and behind it, whichever of both deadlines is the earlier one.
func TestAliveEdges(t *testing.T) {
	f, _ := begun(t)
	for _, k := range []struct{ created, used, idle, absolute, end int }{
		{100, 100, 50, 120, 150}, {100, 110, 50, 120, 160}, {100, 190, 50, 120, 220}, {100, 169, 50, 120, 219}, {100, 170, 50, 120, 220}, {100, 171, 50, 120, 220},
		{0, 0, 1, 1, 1}, {0, 0, 1, lastTime, 1}, {0, 0, lastTime, 1, 1}, {0, 0, lastTime, lastTime, lastTime},
		{lastTime - 5, lastTime - 5, 3, 4, lastTime - 2}, {lastTime - 5, lastTime - 5, 9, 4, lastTime - 1}, {lastTime - 5, lastTime - 5, 9, 9, lastTime},
		{lastTime - 1, lastTime - 1, lastTime, lastTime, lastTime}, {5, lastTime - 1, 1, lastTime, lastTime},
	} {
		f.Created, f.Used, f.Idle, f.Absolute = k.created, k.used, k.idle, k.absolute
		for _, now := range []int{least, -1, 0, k.created - 1, k.created, k.used, k.end - 1, k.end, k.end + 1, lastTime, lastTime + 1, most} {
			if got, want := wantAlive(t, f, now), now < k.end; got != want {
				t.Errorf("%#v at %d: %v", k, now, got)
			}
		}
	}
}

// F2: a family that has no time left from its beginning on, at the last time of all.
func TestAliveAtTheLastTime(t *testing.T) {
	b := usual()
	b.now = lastTime
	f, k, errno := b.begin()
	if errno != api.OK || family.Alive(f, most) || family.Alive(f, lastTime) || !family.Alive(f, lastTime-1) {
		t.Errorf("%#v, %d", f, errno)
	}
	wantVerdict(t, "at the last time", f, k, lastTime, api.VerdictExpired)
	wantVerdict(t, "behind the last time", f, k, most, api.VerdictExpired)
}

// F2: of each state; of the Active one alone.
func TestAliveStates(t *testing.T) {
	f, _ := begun(t)
	for _, f.State = range []int{least, -1, 0, 1, 2, 3, 4, 5, 257, most} {
		for _, f.Ended = range []int{0, 100, 149, 150, 1000, lastTime} {
			for _, now := range []int{least, 0, 99, 100, 149, 150, most} {
				if got, want := wantAlive(t, f, now), f.State == 1 && now < 150; got != want {
					t.Errorf("state %d, ended %d, at %d: %v", f.State, f.Ended, now, got)
				}
			}
		}
	}
}

// F7: of each state, at END and retain, and around it.
func TestOverEdges(t *testing.T) {
	f, _, _ := rotated(t) // its END is 160
	for state := 1; state <= 4; state++ {
		g, at := f, 160
		if state != api.Active {
			g, _ = family.Finish(f, state, 130)
			at = 130
		}
		for _, k := range []struct {
			retain, now int
			want        bool
		}{
			{0, at - 1, false}, {0, at, true}, {0, at + 1, true}, {-1, at - 1, false}, {-1, at, true}, {least, at - 1, false}, {least, at, true},
			{1, at, false}, {1, at + 1, true}, {30, at + 29, false}, {30, at + 30, true}, {30, at + 31, true}, {30, at - 1, false},
			{0, least, false}, {0, 0, false}, {least, least, false}, {least, most, true}, {0, most, true}, {0, lastTime, true},
			{lastTime, lastTime, false}, {lastTime, most, false}, {most, most, false}, {lastTime + 1, most, false}, {most, least, false},
			{lastTime - at, most, true}, {lastTime - at, lastTime - 1, false}, {lastTime - at + 1, most, false}, {lastTime - 1, most, false},
		} {
			if got := wantOver(t, g, k.retain, k.now); got != k.want {
				t.Errorf("state %d, retain %d, at %d: %v", state, k.retain, k.now, got)
			}
		}
	}
}

// F7: a retain above 2^40 counts as that, one below 0 as 0.
func TestOverRetain(t *testing.T) {
	f := api.Family{State: api.Revoked}
	for _, k := range []struct {
		retain int
		want   bool
	}{{least, true}, {-1, true}, {0, true}, {1, true}, {lastTime - 1, true}, {lastTime, true}, {lastTime + 1, true}, {lastID, true}, {most, true}} {
		if got := wantOver(t, f, k.retain, most); got != k.want {
			t.Errorf("ended at 0, retain %d, at the last time: %v", k.retain, got)
		}
		if got := wantOver(t, f, k.retain, lastTime-1); got != (k.retain < lastTime) {
			t.Errorf("ended at 0, retain %d, one ahead of the last time: %v", k.retain, got)
		}
		if got := wantOver(t, f, k.retain, 0); got != (k.retain <= 0) {
			t.Errorf("ended at 0, retain %d, at 0: %v", k.retain, got)
		}
	}
}

// F7: one that ended later than now is not over, though it is not alive.
func TestNotOverAheadOfItsEnd(t *testing.T) {
	f, _, _ := rotated(t)
	f, _ = family.Finish(f, api.Revoked, 140)
	for now := range 140 {
		if wantOver(t, f, 0, now) || wantAlive(t, f, now) {
			t.Errorf("at %d: over %v, alive %v", now, wantOver(t, f, 0, now), wantAlive(t, f, now))
		}
	}
}

// F2, F7: of all families, such as may not be too, at all numbers.
func TestAliveAndOver(t *testing.T) {
	for _, f := range someFamilies() {
		for _, now := range nearTimes(f, api.Token{}) {
			wantAlive(t, f, now)
			for _, retain := range append(someTimes(), 1, 10, now-end(f), now-end(f)-1, now-end(f)+1) {
				wantOver(t, f, retain, now)
			}
		}
		eachField(f, func(g api.Family) {
			for _, now := range someNumbers() {
				wantAlive(t, g, now)
				wantOver(t, g, 0, now)
				wantOver(t, g, 7, now)
			}
		})
	}
	r := rand.New(rand.NewSource(2))
	for range 50000 {
		f := spoilt(r, pick(r, someFamilies()...), r.Intn(8))
		now := pick(r, append(someNumbers(), end(f)-1, end(f), end(f)+1)...)
		wantAlive(t, f, now)
		wantOver(t, f, pick(r, append(someNumbers(), now-end(f))...), now)
	}
}
