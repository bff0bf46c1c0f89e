package clock_test

import (
	"math"
	"math/rand"
	"testing"

	"latchkey/clock"
)

const (
	least = math.MinInt
	most  = math.MaxInt
)

// C2: each kind of time with each kind of sum of seconds.
func TestAdd(t *testing.T) {
	for _, x := range []struct{ t, d, want int }{
		{0, 0, 0}, {10, 0, 10}, {10, 5, 15}, {10, -5, 5}, {10, -10, 0}, {10, -11, 0}, {10, least, 0}, {10, most, last},
		{-1, 0, 0}, {-5, 3, 3}, {-5, -3, 0}, {least, 7, 7}, {least, least, 0}, {least, most, last}, {least, last, last},
		{0, last, last}, {0, last - 1, last - 1}, {0, last + 1, last}, {0, -last, 0}, {0, least, 0}, {0, most, last},
		{1, last, last}, {1, last - 1, last}, {1, last - 2, last - 1},
		{last, 0, last}, {last, 1, last}, {last, -1, last - 1}, {last, -last, 0}, {last, -last + 1, 1}, {last, -last - 1, 0}, {last, least, 0}, {last, most, last},
		{last + 1, 0, last}, {last + 1, -1, last - 1}, {2 * last, -last, 0}, {2 * last, -3, last - 3},
		{most, 0, last}, {most, -1, last - 1}, {most, 1, last}, {most, most, last}, {most, least, 0}, {most, -last, 0},
	} {
		if got := clock.Add(x.t, x.d); got != x.want {
			t.Errorf("Add(%d, %d): %d, want %d", x.t, x.d, got, x.want)
		}
	}
}

// C3: an end ahead of, at and behind a time, and numbers that are no times on either side.
func TestLeft(t *testing.T) {
	for _, x := range []struct{ now, end, want int }{
		{0, 0, 0}, {3, 10, 7}, {10, 3, 0}, {9, 10, 1}, {10, 10, 0}, {11, 10, 0}, {0, last, last}, {last, 0, 0}, {last, last, 0}, {last - 1, last, 1},
		{-9, 4, 4}, {4, -9, 0}, {-9, -4, 0}, {-4, -9, 0}, {least, 4, 4}, {4, least, 0}, {least, least, 0}, {least, 0, 0},
		{0, last + 1, last}, {1, 2 * last, last - 1}, {last + 1, 0, 0}, {last + 1, last + 9, 0}, {last, last + 9, 0}, {last + 9, last, 0},
		{0, most, last}, {7, most, last - 7}, {most, 7, 0}, {most, most, 0}, {least, most, last}, {most, least, 0}, {-1, most, last},
	} {
		if got := clock.Left(x.now, x.end); got != x.want {
			t.Errorf("Left(%d, %d): %d, want %d", x.now, x.end, got, x.want)
		}
	}
}

// C4: at the beginning, one ahead of it, at the end and one ahead of that.
func TestWithinEnds(t *testing.T) {
	for _, from := range []int{1, 2, 10, 5000, last / 2, last - 100} {
		for _, length := range []int{1, 2, 3, 17, 100} {
			for _, x := range []struct {
				now  int
				want bool
			}{{from - 1, false}, {from, true}, {from + length - 1, true}, {from + length, false}} {
				if got := clock.Within(x.now, from, length); got != x.want {
					t.Errorf("Within(%d, %d, %d): %v", x.now, from, length, got)
				}
			}
		}
	}
}

// C4: lengths below 1, the least and the greatest int, and numbers that are no times.
func TestWithin(t *testing.T) {
	for _, x := range []struct {
		now, from, length int
		want              bool
	}{
		{10, 10, 0, false}, {10, 10, -1, false}, {10, 10, least, false}, {9, 10, -1, false}, {9, 10, -5, false}, {9, 10, least, false}, {11, 10, 0, false}, {11, 10, -1, false}, {11, 10, least, false},
		{10, 10, most, true}, {9, 10, most, false}, {11, 10, most, true}, {last, 0, most, true}, {0, last, most, false},
		{last, 0, last, false}, {last, 0, last + 1, true}, {last - 1, 0, last, true}, {last, last, 1, true}, {last - 1, last, 1, false},
		{3, -4, 4, true}, {4, -4, 4, false}, {-4, -4, 1, true}, {-9, -4, 1, true}, {-1, 0, 1, true}, {0, -1, 1, true}, {-1, 1, 9, false}, {least, least, 1, true}, {least, 0, 1, true}, {least, 1, most, false}, {least, most, most, false},
		{last + 5, last, 1, true}, {last, last + 5, 1, true}, {last + 9, last + 5, 1, true}, {last - 1, last + 5, most, false}, {most, last, 1, true}, {last, most, 1, true},
		{most, last - 1, 1, false}, {most, last - 1, 2, true}, {most, 0, last, false}, {most, 0, last + 1, true}, {most, least, last, false}, {most, least, last + 1, true}, {most, least, most, true}, {most, least, -1, false},
		{least, least, 0, false}, {most, most, 0, false}, {most, most, least, false}, {least, least, least, false},
	} {
		if got := clock.Within(x.now, x.from, x.length); got != x.want {
			t.Errorf("Within(%d, %d, %d): %v", x.now, x.from, x.length, got)
		}
	}
}

// C5: none, one, many, and numbers that are no times.
func TestFirst(t *testing.T) {
	for _, x := range []struct {
		l    []int
		want int
	}{
		{nil, last}, {[]int{}, last}, {[]int{0}, 0}, {[]int{7}, 7}, {[]int{last}, last},
		{[]int{last + 1}, last}, {[]int{most}, last}, {[]int{-1}, 0}, {[]int{least}, 0},
		{[]int{1, 2, 3}, 1}, {[]int{3, 2, 1}, 1}, {[]int{2, 1, 3}, 1}, {[]int{2, 2}, 2}, {[]int{9, 4, 2 * last}, 4},
		{[]int{most, last + 1}, last}, {[]int{most, last - 1, last}, last - 1}, {[]int{5, -3}, 0}, {[]int{-3, 5}, 0}, {[]int{least, most}, 0}, {[]int{most, 8, most}, 8},
	} {
		if got := clock.First(x.l...); got != x.want {
			t.Errorf("First(%d): %d, want %d", x.l, got, x.want)
		}
	}
	if got := clock.First(); got != last {
		t.Errorf("First(): %d", got)
	}
}

// C5: the earliest one is found wherever it stands.
func TestFirstAnywhere(t *testing.T) {
	for size := 1; size < 40; size++ {
		for at := range size {
			l := make([]int, size)
			for n := range l {
				l[n] = 1000 + n%7
			}
			l[at] = 999
			if got := clock.First(l...); got != 999 {
				t.Fatalf("First(%d): %d", l, got)
			}
		}
	}
}

// C2 to C5 hold at all edges, in twos and threes, as if numbers had no end.
func TestEdges(t *testing.T) {
	l := edges()
	for _, a := range l {
		wantFirst(t, a)
		for _, b := range l {
			wantSums(t, a, b)
			wantFirst(t, a, b)
			for _, c := range l {
				wantWithin(t, a, b, c)
			}
		}
	}
}

// C2 to C5 hold at numbers drawn at random.
func TestSomeNumbers(t *testing.T) {
	r := rand.New(rand.NewSource(2))
	for range 20000 {
		a, b := someNumber(r), someNumber(r)
		wantSums(t, a, b)
		wantWithin(t, a, b, someNumber(r))
		wantWithin(t, clock.Add(a, b), a, b+r.Intn(3)-1)
		wantFirst(t, someNumbers(r)...)
	}
}
