package limit_test

import (
	"math/rand"
	"strings"
	"testing"

	"latchkey/api"
)

// someName is one of a few names, a bit more than are kept, or a text that is none.
func someName(r *rand.Rand, many int) string {
	if r.Intn(30) == 0 {
		return []string{"", "A", "a b", strings.Repeat("a", 17)}[r.Intn(4)]
	}
	return "n" + string(rune('a'+r.Intn(many)))
}

// someCost is a cost beside what there is, or any.
func someCost(r *rand.Rand, level, burst float32) float32 {
	switch r.Intn(8) {
	case 0:
		return level
	case 1:
		return someAmount(r)
	case 2:
		return wrongAmounts()[r.Intn(len(wrongAmounts()))]
	case 3:
		return 0
	}
	return min(burst*r.Float32(), level*2)
}

// L4: rows of calls at random, held against the account: no level is below 0 or above burst.
func TestRows(t *testing.T) {
	r := rand.New(rand.NewSource(6))
	in, over := 0, 0
	for range 400 {
		rate, burst := someAmount(r), someBurst(r)
		b, near, many := bothOf(t, rate, burst), r.Intn(1000), 1+r.Intn(24)
		for range 60 {
			name, now := someName(r, many), someTime(r, near)
			level := b.level(name, now)
			if !(level >= 0 && level <= burst) {
				t.Fatalf("Level(%q, %d): %g of %g", name, now, level, burst)
			}
			switch _, errno := b.take(name, someCost(r, level, burst), now); errno {
			case api.OK:
				in++
			case api.ErrLimitOver:
				over++
			}
			b.names()
			near += r.Intn(5)
		}
		for n := range many {
			name := "n" + string(rune('a'+n))
			for range 3 {
				if level := b.level(name, someTime(r, near)); !(level >= 0 && level <= burst) {
					t.Fatalf("a level of %g of %g", level, burst)
				}
			}
		}
	}
	if in < 4000 || over < 2000 {
		t.Fatal("the test is wrong", in, over)
	}
}

// L4: whoever waits as told is let in, and whoever comes sooner is not, but is told the rest.
func TestWaitAsTold(t *testing.T) {
	r := rand.New(rand.NewSource(7))
	waited, never := 0, 0
	for range 20000 {
		rate, burst := someAmount(r), someBurst(r)
		l, start := made(t, rate, burst), r.Intn(1<<r.Intn(40))
		wantIn(t, l, "a", burst*r.Float32(), start)
		now, cost := start+r.Intn(5)*r.Intn(1<<r.Intn(38)), burst*r.Float32()
		w, errno := l.Take("a", cost, now)
		if errno != api.ErrLimitOver {
			continue
		}
		if w == last {
			never++
			wantOver(t, l, "a", cost, now+1+r.Intn(1<<30), last)
			continue
		}
		sooner := []int{w - 1, w / 2, r.Intn(w), 0, r.Intn(w)}
		for _, n := range sooner {
			if now+n <= last {
				wantOver(t, l, "a", cost, now+n, w-n)
			}
		}
		if now+w <= last {
			waited++
			wantIn(t, l, "a", cost, now+w)
		}
	}
	if waited < 1000 || never < 1000 {
		t.Fatal("the test is wrong", waited, never)
	}
}

// L4: sixteen names are each answered as by a limiter that knows no other.
func TestSixteenAlone(t *testing.T) {
	r := rand.New(rand.NewSource(8))
	for range 300 {
		rate, burst := someAmount(r), someBurst(r)
		together, near := made(t, rate, burst), r.Intn(1000)
		alone := map[string]*both{}
		for n := range room {
			alone["n"+string(rune('a'+n))] = bothOf(t, rate, burst)
		}
		for range 100 {
			name, now := "n"+string(rune('a'+r.Intn(room))), someTime(r, near)
			one := alone[name].l
			cost := someCost(r, one.Level(name, now), burst)
			w, errno := one.Take(name, cost, now)
			wantTake(t, together, name, cost, now, w, errno)
			near += r.Intn(3)
			for other, one := range alone {
				if a, b := one.l.Level(other, near), together.Level(other, near); !same(a, b) {
					t.Fatalf("Level(%q, %d): alone %g, together %g", other, near, a, b)
				}
			}
		}
	}
}

// L4: over any time, what is let in of a name is no more than burst and what fills up meanwhile (numbers that need no rounding).
func TestNoMoreThanFills(t *testing.T) {
	r := rand.New(rand.NewSource(9))
	for range 200 {
		rate, burst := float32(r.Intn(8))/4, float32(1+r.Intn(20))
		l, now, begin, given := made(t, rate, burst), 100, 95, float32(0)
		for range 200 {
			now += r.Intn(4)
			cost := float32(r.Intn(12)) / 4
			if _, errno := l.Take("a", cost, now-r.Intn(2)*r.Intn(6)); errno == api.OK {
				given += cost
			}
			if most := burst + float32(now-begin)*rate; given > most {
				t.Fatalf("%g were given, and at most %g may be", given, most)
			}
		}
		if rate > 0 && given <= burst {
			t.Fatal("the test is wrong", rate, burst, given)
		}
	}
}
