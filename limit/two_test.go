package limit_test

import (
	"math/rand"
	"strings"
	"sync"
	"testing"

	"latchkey/api"
	"latchkey/limit"
)

// Two limiters beside each other, also such as are made of the same numbers: neither learns of the other.
func TestTwoLimiters(t *testing.T) {
	one, two := made(t, 0.5, 2), made(t, 0.5, 2)
	wantIn(t, one, "a", 2, 100)
	wantLevel(t, two, "a", 100, 2)
	wantNames(t, two, "")
	wantIn(t, two, "b", 1, 50)
	wantNames(t, one, "a")
	wantNames(t, two, "b")
	wantOver(t, one, "a", 1, 100, 2)
	wantIn(t, two, "a", 1, 3)
	wantLevel(t, two, "a", 4, 1.5)
	wantLevel(t, one, "a", 4, 0)
	wantLevel(t, one, "b", 50, 2)
	for n := range room {
		wantIn(t, two, string(rune('c'+n)), 1, 0)
	}
	wantNames(t, one, "a")
	wantLevel(t, one, "a", 101, 0.5)
	wantNames(t, made(t, 0.5, 2), "")
}

// Many limiters in turns, each told as if it were alone.
func TestLimitersInTurns(t *testing.T) {
	r := rand.New(rand.NewSource(10))
	var l []*both
	for range 12 {
		l = append(l, bothOf(t, someAmount(r), someBurst(r)))
	}
	for n := range 3000 {
		b := l[r.Intn(len(l))]
		name, now := someName(r, 20), someTime(r, n)
		b.take(name, someCost(r, b.level(name, now), b.m.burst), now)
		l[r.Intn(len(l))].names()
	}
}

// Limiters that are asked at once, each by its own: what each answers hangs on its own calls alone.
func TestLimitersAtOnce(t *testing.T) {
	var wait sync.WaitGroup
	for seed := range 8 {
		wait.Add(1)
		go func() {
			defer wait.Done()
			r := rand.New(rand.NewSource(int64(seed)))
			l, errno := limit.New(0.5, 3)
			m := &model{rate: 0.5, burst: 3}
			for now := range 200 {
				name, cost := someName(r, 20), 3*r.Float32()
				_, want := m.take(name, cost, now)
				if _, got := l.Take(name, cost, now); got != want || errno != api.OK || !same(l.Level(name, now), m.level(name, now)) {
					t.Errorf("Take(%q, %g, %d): %d, want %d", name, cost, now, got, want)
				}
			}
		}()
	}
	wait.Wait()
}

// The same calls have the same answers, as often as they are made from the beginning on.
func TestAgain(t *testing.T) {
	play := func() []any {
		r := rand.New(rand.NewSource(11))
		l, told := made(t, 0.3, 2.5), []any{}
		for n := range 500 {
			name, now := someName(r, 20), someTime(r, n)
			w, errno := l.Take(name, 2*r.Float32(), now)
			told = append(told, w, errno, l.Level(name, now), strings.Join(l.Names(), " "))
		}
		return told
	}
	first := play()
	for n, x := range play() {
		if x != first[n] {
			t.Fatalf("answer %d: %v, and %v", n, first[n], x)
		}
	}
}

// A name that is kept is not the text that came in: that one may be a piece of a great one.
func TestNameOfItsOwn(t *testing.T) {
	l := made(t, 1, 2)
	piece := strings.Repeat("x", 1<<20) + "ann"
	wantIn(t, l, piece[1<<20:], 1, 10)
	wantNames(t, l, "ann")
	wantLevel(t, l, "ann", 10, 1)
}
