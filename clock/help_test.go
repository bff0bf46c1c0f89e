package clock_test

import (
	"math"
	"math/big"
	"math/rand"
	"slices"
	"testing"

	"latchkey/clock"
)

// The last time of all, as the chapter writes it out.
const last = 1099511627776

// The chapter's words in numbers without an end.

func num(n int) *big.Int { return big.NewInt(int64(n)) }

// near is the nearest time of a number.
func near(n *big.Int) *big.Int {
	switch {
	case n.Sign() < 0:
		return num(0)
	case n.Cmp(num(last)) > 0:
		return num(last)
	}
	return n
}

func small(n *big.Int) int { return int(n.Int64()) }

// time is the nearest time of an int.
func time(n int) int { return small(near(num(n))) }

// added is C2.
func added(t, d int) int {
	return small(near(new(big.Int).Add(near(num(t)), num(d))))
}

// left is C3.
func left(now, end int) int {
	n, e := near(num(now)), near(num(end))
	if e.Cmp(n) <= 0 {
		return 0
	}
	return small(new(big.Int).Sub(e, n))
}

// within is C4: from is reached, and from and length is not.
func within(now, from, length int) bool {
	n, f := near(num(now)), near(num(from))
	return n.Cmp(f) >= 0 && n.Cmp(new(big.Int).Add(f, num(length))) < 0
}

// first is C5.
func first(l []int) int {
	times := []int{last}
	for _, n := range l {
		times = append(times, time(n))
	}
	slices.Sort(times)
	return times[0]
}

// edges are the numbers at which something might turn, each with its neighbours.
func edges() []int {
	l := []int{math.MinInt, math.MinInt + 1, math.MaxInt - 1, math.MaxInt}
	for _, n := range []int{-last * 2, -last, 0, 5, 1000, last / 2, last, last * 2, math.MinInt32, math.MaxInt32, math.MaxUint32} {
		l = append(l, n-1, n, n+1)
	}
	for _, n := range []int{math.MinInt + last, math.MaxInt - last, math.MaxInt / 2} {
		l = append(l, n-1, n, n+1)
	}
	return l
}

// someNumber is any int: near an edge, anywhere, or a time.
func someNumber(r *rand.Rand) int {
	switch r.Intn(4) {
	case 0:
		l := edges()
		return l[r.Intn(len(l))]
	case 1:
		return int(r.Uint64())
	case 2:
		return int(r.Int63n(last + 1))
	}
	return r.Intn(41) - 20
}

// someNumbers is a list of some.
func someNumbers(r *rand.Rand) []int {
	l := make([]int, r.Intn(12))
	for n := range l {
		l[n] = someNumber(r)
	}
	return l
}

// wantSums holds what is reckoned with two numbers against the chapter's words.
func wantSums(t *testing.T, a, b int) {
	t.Helper()
	if got, want := clock.Add(a, b), added(a, b); got != want {
		t.Errorf("Add(%d, %d): %d, want %d", a, b, got, want)
	}
	if got, want := clock.Left(a, b), left(a, b); got != want {
		t.Errorf("Left(%d, %d): %d, want %d", a, b, got, want)
	}
}

func wantWithin(t *testing.T, now, from, length int) {
	t.Helper()
	if got, want := clock.Within(now, from, length), within(now, from, length); got != want {
		t.Errorf("Within(%d, %d, %d): %v, want %v", now, from, length, got, want)
	}
}

func wantFirst(t *testing.T, l ...int) {
	t.Helper()
	if got, want := clock.First(l...), first(l); got != want {
		t.Errorf("First(%d): %d, want %d", l, got, want)
	}
}
