package clock_test

import (
	"math"
	"math/rand"
	"testing"

	"latchkey/api"
	"latchkey/clock"
)

// wantNow asks for the time, many times: asking changes nothing.
func wantNow(t *testing.T, c *clock.Clock, want int) {
	t.Helper()
	for range 5 {
		if got := c.Now(); got != want {
			t.Fatalf("Now: %d, want %d", got, want)
		}
	}
}

// wantSee shows a reading, and asks for the time then.
func wantSee(t *testing.T, c *clock.Clock, reading, want int) {
	t.Helper()
	if got := c.See(reading); got != want {
		t.Fatalf("See(%d): %d, want %d", reading, got, want)
	}
	wantNow(t, c, want)
}

// The last time is the one that package api names.
func TestLastTime(t *testing.T) {
	if api.MaxTime != last {
		t.Errorf("MaxTime: %d", api.MaxTime)
	}
}

// C1: New begins at the nearest time of its floor.
func TestNew(t *testing.T) {
	for _, x := range []struct{ floor, want int }{
		{0, 0}, {1, 1}, {-1, 0}, {-7, 0}, {-last, 0}, {math.MinInt, 0}, {12345, 12345},
		{last - 1, last - 1}, {last, last}, {last + 1, last}, {2 * last, last}, {math.MaxInt, last},
	} {
		wantNow(t, clock.New(x.floor), x.want)
	}
	for _, floor := range edges() {
		wantNow(t, clock.New(floor), time(floor))
	}
}

// C1: readings that rise, fall and stay.
func TestSee(t *testing.T) {
	c := clock.New(100)
	for _, x := range []struct{ reading, want int }{
		{100, 100}, {101, 101}, {101, 101}, {100, 101}, {0, 101}, {-1, 101}, {math.MinInt, 101},
		{250, 250}, {102, 250}, {251, 251}, {last - 1, last - 1}, {250, last - 1},
		{last, last}, {last - 1, last}, {last + 1, last}, {math.MaxInt, last}, {math.MinInt, last}, {0, last}, {last, last},
	} {
		wantSee(t, c, x.reading, x.want)
	}
}

// C1: each kind of reading behind each kind of floor.
func TestSeeBehindFloor(t *testing.T) {
	for _, floor := range edges() {
		for _, reading := range edges() {
			wantSee(t, clock.New(floor), reading, max(time(floor), time(reading)))
		}
	}
}

// C1: a reading that is no time is not kept as it is: what lies between it and the nearest time is nothing.
func TestSeeNoTime(t *testing.T) {
	c := clock.New(math.MinInt)
	wantSee(t, c, math.MinInt, 0)
	wantSee(t, c, -1, 0)
	wantSee(t, c, 1, 1)
	wantSee(t, c, last+5, last)
	wantSee(t, c, last+9, last)
}

// Clocks know nothing of one another, also if they began alike.
func TestTwoClocks(t *testing.T) {
	a, b := clock.New(10), clock.New(10)
	wantSee(t, a, 50, 50)
	wantNow(t, b, 10)
	wantSee(t, b, 20, 20)
	wantNow(t, a, 50)
	wantSee(t, a, 15, 50)
	wantSee(t, b, 15, 20)
	wantSee(t, b, math.MaxInt, last)
	wantNow(t, a, 50)
	wantNow(t, clock.New(10), 10)
}

// Many clocks in turns, each told as if it were alone.
func TestClocksInTurns(t *testing.T) {
	r := rand.New(rand.NewSource(1))
	var clocks []*clock.Clock
	var times []int
	for range 2000 {
		if len(clocks) < 20 {
			floor := someNumber(r)
			clocks, times = append(clocks, clock.New(floor)), append(times, time(floor))
		}
		n, reading := r.Intn(len(clocks)), someNumber(r)
		times[n] = max(times[n], time(reading))
		wantSee(t, clocks[n], reading, times[n])
		for n, c := range clocks {
			if c.Now() != times[n] {
				t.Fatalf("clock %d tells %d, want %d", n, c.Now(), times[n])
			}
		}
	}
}

// asker wants the time, and shower turns it: they know of no clock.
type asker struct{ now func() int }
type shower struct{ see func(int) int }

// Method values of one clock are of that clock, whenever they were taken.
func TestMethodValues(t *testing.T) {
	c, other := clock.New(3), clock.New(4)
	early, see := asker{c.Now}, shower{c.See}
	if got := early.now(); got != 3 {
		t.Fatalf("Now: %d", got)
	}
	if got := see.see(8); got != 8 || early.now() != 8 || c.Now() != 8 {
		t.Fatalf("See: %d, Now: %d, %d", got, early.now(), c.Now())
	}
	wantSee(t, c, 12, 12)
	late := asker{c.Now}
	if early.now() != 12 || late.now() != 12 || see.see(9) != 12 {
		t.Fatalf("Now: %d, %d", early.now(), late.now())
	}
	wantNow(t, other, 4)
	again := shower{c.See}
	for n, s := range []shower{see, again, see, again} {
		if got := s.see(20 + n); got != 20+n || late.now() != 20+n || early.now() != 20+n {
			t.Fatalf("See(%d): %d, Now: %d", 20+n, got, late.now())
		}
	}
	wantNow(t, other, 4)
}
