package limit_test

import (
	"math"
	"math/rand"
	"strings"
	"testing"

	"latchkey/api"
	"latchkey/limit"
)

// R1: all floats that may be and may not be, with all numbers and texts: no call panics, and with an error nothing is told beside it.
func TestWild(t *testing.T) {
	r := rand.New(rand.NewSource(12))
	anyFloat := func() float32 {
		if r.Intn(3) == 0 {
			return someAmount(r)
		}
		return math.Float32frombits(r.Uint32())
	}
	texts := append(rightNames(), wrongNames()...)
	texts = append(texts, strings.Repeat("a", 1<<20), strings.Repeat("\xff", 1<<20))
	made := 0
	for range 20000 {
		rate, burst := anyFloat(), anyFloat()
		l, errno := limit.New(rate, burst)
		if right := rate >= 0 && rate <= greatest && burst > 0 && burst <= greatest; right != (errno == api.OK) || right != (l != nil) {
			t.Fatalf("New(%g, %g): %d", rate, burst, errno)
		}
		if errno != api.OK {
			continue
		}
		made++
		b := &both{t, l, &model{rate: rate, burst: burst}}
		for range 4 {
			s, cost, now := texts[r.Intn(len(texts))], anyFloat(), someTime(r, 50)
			b.take(s, cost, now)
			b.level(s, someTime(r, now))
		}
		b.names()
	}
	if made < 2000 {
		t.Fatal("the test is wrong", made)
	}
}

// A limiter that no call gave, and that therefore has neither rate nor burst, panics not either.
func TestNoLimiter(t *testing.T) {
	var l limit.Limiter
	wantIn(t, &l, "a", 0, 10)
	wantOver(t, &l, "a", 1, 10, last)
	wantLevel(t, &l, "a", 20, 0)
	wantNames(t, &l, "a")
}

// What was asked is soon answered, also where no number of seconds is enough.
func TestSoon(t *testing.T) {
	l := made(t, least, greatest)
	for n := range room {
		wantIn(t, l, string(rune('a'+n)), greatest, 0)
	}
	for range 20000 {
		wantOver(t, l, "a", 1, 0, last)
	}
}

func FuzzTake(f *testing.F) {
	f.Add(float32(0.5), float32(2), "a", float32(1), 100, 102)
	f.Add(float32(1.0/(1<<40)), float32(2), "a", float32(2), 0, 1<<16+2)
	f.Add(nan, infinite, "", -least, math.MinInt, math.MaxInt)
	f.Fuzz(func(t *testing.T, rate, burst float32, name string, cost float32, first, now int) {
		l, errno := limit.New(rate, burst)
		if errno != api.OK {
			return
		}
		b := &both{t, l, &model{rate: rate, burst: burst}}
		b.take(name, burst, first)
		b.take(name, cost, now)
		b.take(name, cost, first)
		b.level(name, now)
		b.names()
	})
}
