package limit_test

import (
	"math"
	"math/rand"
	"testing"

	"latchkey/api"
)

// plain is rises in steps that are quick, for a search through many seconds: in float64s product and sum have room enough for each to be rounded but once.
func plain(rate, burst, level float32, n int) float32 {
	product := float32(float64(float32(n)) * float64(rate))
	if higher := float32(float64(level) + float64(product)); higher < burst {
		return higher
	}
	return burst
}

func TestPlain(t *testing.T) {
	r := rand.New(rand.NewSource(1))
	for range 200000 {
		rate, burst, level, n := someAmount(r), someBurst(r), someAmount(r), 1<<r.Intn(41)+r.Intn(1000)
		if a, b := plain(rate, burst, level, n), rises(rate, burst, level, n); !same(a, b) {
			t.Fatalf("rate %g, burst %g, level %g, %d: %g, %g", rate, burst, level, n, a, b)
		}
	}
}

// searched is the least number of seconds that is enough, tried from 1 on; none, if it is beyond so many.
func searched(rate, burst, level, cost float32, d, most int) (int, bool) {
	for w := 1; w <= most; w++ {
		if plain(rate, burst, level, d+w) >= cost {
			return w, true
		}
	}
	return 0, false
}

// wantSearched makes a level at a time, asks d seconds behind it, and holds the seconds to wait against a search. It tells whether the search found any.
func wantSearched(t *testing.T, rate, burst, level, cost float32, start, d, most int) bool {
	t.Helper()
	l := made(t, rate, burst)
	wantIn(t, l, "a", burst-level, start)
	level = l.Level("a", start)
	w, errno := l.Take("a", cost, start+d)
	if errno != api.ErrLimitOver {
		return false
	}
	want, found := searched(rate, burst, level, cost, d, most)
	if found && w != want || !found && w <= most {
		t.Fatalf("rate %g, burst %g, level %g at %d: Take(%g, %d): %d, want %d (%v)", rate, burst, level, start, cost, start+d, w, want, found)
	}
	return found
}

// L2: the seconds to wait, at random, each one from 1 on being tried.
func TestWaitSearched(t *testing.T) {
	r := rand.New(rand.NewSource(2))
	count := 0
	for range 30000 {
		burst := someBurst(r)
		level := burst * r.Float32()
		cost := level + (burst-level)*r.Float32()
		rate := burst * float32(math.Ldexp(r.Float64(), -r.Intn(14)))
		if wantSearched(t, rate, burst, level, cost, r.Intn(1000), r.Intn(50)*r.Intn(50), 1<<14) {
			count++
		}
	}
	if count < 5000 {
		t.Fatal("the test is wrong", count)
	}
}

// L2: the same where a float32 of so many seconds is rounded: at 2^24 and above, where many seconds have one float32.
func TestWaitRounded(t *testing.T) {
	r := rand.New(rand.NewSource(3))
	count := 0
	for range 3000 {
		bits := 24 + r.Intn(16)
		d := 1<<bits - r.Intn(3) + r.Intn(2)*r.Intn(1<<bits)
		rate := float32(math.Ldexp(0.5+r.Float64()/2, -bits))
		at := plain(rate, 4, 0.25, d)
		cost := at
		for range 1 + r.Intn(3) {
			cost = math.Nextafter32(cost, 4)
		}
		if wantSearched(t, rate, 4, 0.25, cost, r.Intn(1000), d, 1<<18) {
			count++
		}
	}
	if count < 1000 {
		t.Fatal("the test is wrong", count)
	}
}

// L2: the same, the seconds to wait being many themselves.
func TestWaitLong(t *testing.T) {
	for _, c := range []struct {
		rate, level, cost float32
		d, least          int
	}{
		{1.0 / (1 << 24), 0, 1, 0, 1 << 24},
		{1.0 / (1 << 24), 0, 1, 3, 1 << 23},
		{1.0 / (1 << 24), 0, math.Nextafter32(1, 2), 0, 1 << 24},
		{1.0 / (1 << 25), 0, math.Nextafter32(1, 2), 0, 1 << 25},
		{1.0 / (1 << 25), 0.5, math.Nextafter32(1, 2), 1, 1 << 24},
		{0.1 / (1 << 22), 0.125, 1.5, 1000, 1 << 24},
		{0.3 / (1 << 24), 0.3, 1, 77, 1 << 24},
	} {
		if !wantSearched(t, c.rate, 4, c.level, c.cost, 5, c.d, 1<<27) {
			t.Fatal("the test is wrong")
		}
		if w, _ := searched(c.rate, 4, c.level, c.cost, c.d, 1<<27); w < c.least {
			t.Fatal("the test is wrong", w)
		}
	}
}

// L2: whoever is ahead of the time that is kept is told of the seconds from that one on.
func TestWaitAhead(t *testing.T) {
	r := rand.New(rand.NewSource(4))
	for range 2000 {
		rate, burst := someAmount(r), someBurst(r)
		l := made(t, rate, burst)
		wantIn(t, l, "a", burst*r.Float32(), 5000)
		cost := burst * r.Float32()
		w, errno := l.Take("a", cost, 5000)
		if errno == api.OK {
			continue
		}
		for _, now := range []int{4999, 4000, 1, 0, -1, math.MinInt} {
			wantOver(t, l, "a", cost, now, w)
		}
	}
}

// L2: the seconds to wait at their ends: 1, the last but one, the last one, and none.
func TestWaitEnds(t *testing.T) {
	rate := float32(1.0 / (1 << 40))
	one, above := float32(1), math.Nextafter32(1, 2)

	l := made(t, 1, 2)
	wantIn(t, l, "a", 2, 10)
	wantOver(t, l, "a", least, 10, 1)
	wantOver(t, l, "a", 1, 10, 1)
	wantOver(t, l, "a", above, 10, 2)
	wantOver(t, l, "a", above, 11, 1)
	wantOver(t, l, "a", 2, 11, 1)

	// Of the float32s beside 2^40 one is 2^16 below it, and one 2^17 above it; numbers that stand amidst go to 2^40.
	l = made(t, rate, 2)
	wantIn(t, l, "a", 2, 0)
	wantOver(t, l, "a", one, 0, last-1<<15)
	wantOver(t, l, "a", one, 1, last-1<<15-1)
	wantOver(t, l, "a", one, last-1<<15-1, 1)
	wantLevel(t, l, "a", last-1<<15, 1)
	wantOver(t, l, "a", above, 0, last)         // even so long a wait is not enough
	wantOver(t, l, "a", above, 1<<16, last)     // nor is this one
	wantOver(t, l, "a", above, 1<<16+1, last)   // here the last second is the one that is enough
	wantOver(t, l, "a", above, 1<<16+2, last-1) // and here the last but one
	wantOver(t, l, "a", above, 1<<16+3, last-2)
	wantOver(t, l, "a", above, last, 1<<16+1)
	wantOver(t, l, "a", math.Nextafter32(above, 2), last, 3<<16)
	if plain(rate, 2, 0, last+1<<16) != one || plain(rate, 2, 0, last+1<<16+1) != above {
		t.Fatal("the test is wrong")
	}

	l = made(t, rate, 3)
	wantIn(t, l, "a", 3, 0)
	wantOver(t, l, "a", 2, last, last-1<<16)
	wantOver(t, l, "a", math.Nextafter32(2, 3), last, last)
	wantOver(t, l, "a", 3, last, last)
}

// L2: none, for the cost is more than burst, for nothing fills up, or for what fills up is too little beside the level to be seen.
func TestWaitNone(t *testing.T) {
	l := made(t, 1, 2)
	over := math.Nextafter32(2, 3)
	wantOver(t, l, "a", over, 0, last)
	wantOver(t, l, "a", greatest, 0, last)
	wantIn(t, l, "a", 1, 0)
	wantOver(t, l, "a", over, 0, last)
	wantOver(t, l, "a", over, last, last)
	l = made(t, 0, 2)
	wantIn(t, l, "a", 1, 0)
	wantOver(t, l, "a", math.Nextafter32(1, 2), 0, last)
	wantOver(t, l, "a", math.Nextafter32(1, 2), last, last)
	l = made(t, 0x1p-65, 2) // in 2^40 seconds 2^-25, which is lost beside 1
	wantIn(t, l, "a", 1, 0)
	wantOver(t, l, "a", math.Nextafter32(1, 2), 0, last)
	wantOver(t, l, "a", math.Nextafter32(1, 2), 1000, last)
	wantLevel(t, l, "a", last, 1)
	l = made(t, least, greatest)
	wantIn(t, l, "a", greatest, 0)
	wantOver(t, l, "a", greatest, 0, last)
}

// L2: a level that would be greater than the greatest float32 is burst.
func TestWaitGreatest(t *testing.T) {
	l := made(t, greatest, greatest)
	wantIn(t, l, "a", greatest, 0)
	wantOver(t, l, "a", least, 0, 1)
	wantOver(t, l, "a", greatest, 0, 1)
	wantLevel(t, l, "a", 1, greatest)
	wantLevel(t, l, "a", 2, greatest)
	wantLevel(t, l, "a", last, greatest)
	wantIn(t, l, "a", greatest, last)
	wantLevel(t, l, "a", last, 0)
	l = made(t, greatest, 1)
	wantIn(t, l, "a", 1, 0)
	wantOver(t, l, "a", 1, 0, 1)
	wantLevel(t, l, "a", last, 1)
}
