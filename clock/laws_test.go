package clock_test

import (
	"math/rand"
	"slices"
	"testing"

	"latchkey/clock"
)

// C6: the times that a clock tells never fall; each is its floor or the nearest time of a reading that it has seen; it is the greatest of all these.
func TestTold(t *testing.T) {
	r := rand.New(rand.NewSource(3))
	for range 500 {
		floor := someNumber(r)
		c := clock.New(floor)
		now, see := c.Now, c.See
		seen := []int{time(floor)}
		before := now()
		for range r.Intn(60) {
			told := now()
			if r.Intn(3) > 0 {
				reading := someNumber(r)
				seen = append(seen, time(reading))
				told = see(reading)
			}
			if told < before {
				t.Fatalf("the time fell from %d to %d", before, told)
			}
			if !slices.Contains(seen, told) {
				t.Fatalf("%d is nothing that it has seen: %d", told, seen)
			}
			if told != slices.Max(seen) {
				t.Fatalf("%d is not the greatest of %d", told, seen)
			}
			before = told
		}
	}
}

// C6: so in which order readings come, and how often, does not matter behind the last of them.
func TestOrderOfReadings(t *testing.T) {
	r := rand.New(rand.NewSource(4))
	for range 500 {
		floor, l := someNumber(r), someNumbers(r)
		a, b := clock.New(floor), clock.New(floor)
		for _, reading := range l {
			a.See(reading)
		}
		for _, n := range r.Perm(len(l)) {
			b.See(l[n])
			b.See(l[n])
		}
		if a.Now() != b.Now() {
			t.Fatalf("%d in two orders: %d and %d", l, a.Now(), b.Now())
		}
	}
}

// All that is told is a time, and what is reckoned agrees with itself: from is reached again by what is left, and is left at its end.
func TestReckonings(t *testing.T) {
	r := rand.New(rand.NewSource(5))
	for range 20000 {
		a, b := someNumber(r), someNumber(r)
		for _, n := range []int{clock.Add(a, b), clock.Left(a, b), clock.First(a, b), clock.First(a), clock.New(a).See(b)} {
			if n < 0 || n > last {
				t.Fatalf("of %d and %d: %d is no time", a, b, n)
			}
		}
		if got, want := clock.Add(a, clock.Left(a, b)), max(time(a), time(b)); got != want {
			t.Fatalf("%d and what is left up to %d: %d", a, b, got)
		}
		if got, want := clock.Add(a, 0), time(a); got != want || clock.First(a) != want || clock.Left(0, a) != want {
			t.Fatalf("the nearest time of %d: %d, %d, %d", a, got, clock.First(a), clock.Left(0, a))
		}
		length := r.Intn(50)
		if end := clock.Add(a, length); end < last && clock.Within(b, a, length) != (clock.Left(b, a) == 0 && clock.Left(b, end) > 0) {
			t.Fatalf("Within(%d, %d, %d), which ends at %d", b, a, length, end)
		}
	}
}

// The chapter's example 1.
func TestExample1(t *testing.T) {
	c := clock.New(5)
	wantSee(t, c, 3, 5)
	wantSee(t, c, 9, 9)
	wantSee(t, c, -1, 9)
	wantSee(t, c, 1<<41, 1<<40)
	wantNow(t, c, 1<<40)
	wantNow(t, clock.New(-7), 0)
}

// The chapter's example 2.
func TestExample2(t *testing.T) {
	got := []int{clock.Add(10, -20), clock.Add(1<<40, 1), clock.Add(-5, 3), clock.Add(7, 1<<63-1), clock.Left(3, 10), clock.Left(10, 3)}
	if want := []int{0, 1 << 40, 3, 1 << 40, 7, 0}; !slices.Equal(got, want) {
		t.Errorf("%d, want %d", got, want)
	}
}

// The chapter's example 3.
func TestExample3(t *testing.T) {
	got := []bool{clock.Within(10, 10, 1), clock.Within(11, 10, 1), clock.Within(9, 10, 5), clock.Within(10, 10, 0)}
	if want := []bool{true, false, false, false}; !slices.Equal(got, want) {
		t.Errorf("%v, want %v", got, want)
	}
	if a, b := clock.First(9, 4, 1<<41), clock.First(); a != 4 || b != 1<<40 {
		t.Errorf("First: %d, %d", a, b)
	}
}
