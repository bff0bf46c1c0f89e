package clock_test

import (
	"math/rand"
	"runtime"
	"slices"
	"sync"
	"testing"
	"weak"

	"latchkey/clock"
)

// R2: a list that is handed in stays, and what stands behind it in its memory.
func TestHandedInStays(t *testing.T) {
	r := rand.New(rand.NewSource(6))
	for range 2000 {
		l := someNumbers(r)
		whole := append(slices.Clone(l), -5, 1<<41, 3, 0)
		was := slices.Clone(whole)
		clock.First(whole[:len(l)]...)
		if !slices.Equal(whole, was) {
			t.Fatalf("%d became %d", was, whole)
		}
	}
}

// R2: a list that is handed in is not kept: nobody holds it behind the call, and what becomes of it changes no answer.
func TestHandedInIsNotKept(t *testing.T) {
	l := make([]int, 1000)
	for n := range l {
		l[n] = 50 + n
	}
	if got := clock.First(l...); got != 50 {
		t.Fatalf("First: %d", got)
	}
	l[0], l[999] = 70, 3
	if a, b := clock.First(), clock.First(60); a != last || b != 60 {
		t.Fatalf("First: %d, %d", a, b)
	}
	if got := clock.First(l...); got != 3 {
		t.Fatalf("First: %d", got)
	}
	held := weak.Make(&l[0])
	l = nil
	runtime.GC()
	if held.Value() != nil {
		t.Error("the list is kept")
	}
}

// R2: things that have no part in common do not disturb one another, also at the same time.
func TestAtTheSameTime(t *testing.T) {
	var all sync.WaitGroup
	for n := range 8 {
		all.Go(func() {
			r := rand.New(rand.NewSource(int64(n)))
			c, want := clock.New(n), n
			for range 2000 {
				reading := someNumber(r) / 3
				want = max(want, time(reading))
				if got := c.See(reading); got != want || c.Now() != want {
					t.Errorf("See(%d): %d, Now: %d; want %d", reading, got, c.Now(), want)
				}
				wantSums(t, reading, n)
				wantFirst(t, reading, n)
			}
		})
	}
	all.Wait()
}
