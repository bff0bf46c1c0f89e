package limit_test

import (
	"math"
	"strings"
	"testing"

	"latchkey/api"
)

// L2: names that may be, and names that may not be, at costs that may be: what is refused brings nothing to the front and takes nothing.
func TestTakeNames(t *testing.T) {
	b := bothOf(t, 1, 2)
	for _, name := range rightNames() {
		b.take(name, 0.5, 10)
		wantLevel(t, b.l, name, 10, 1.5)
		if b.names()[0] != name {
			t.Fatalf("%q stands not ahead", name)
		}
	}
	before := strings.Join(b.names(), " ")
	for _, name := range wrongNames() {
		for _, cost := range []float32{0, 1, 3, -1, nan} {
			wantTake(t, b.l, name, cost, 10, 0, api.ErrArg)
		}
		wantLevel(t, b.l, name, 10, 2)
	}
	wantNames(t, b.l, before)
}

// L2: a name that may not be is refused for it, also where the cost is more than there ever is; so is a cost that may not be, of a name that is kept and of one that is not.
func TestTakeCosts(t *testing.T) {
	b := bothOf(t, 1, 2)
	b.take("a", 1, 10)
	for _, cost := range wrongAmounts() {
		for _, name := range []string{"a", "b", "", "A"} {
			for _, now := range []int{math.MinInt, 0, 10, 11, math.MaxInt} {
				wantTake(t, b.l, name, cost, now, 0, api.ErrArg)
			}
		}
	}
	for _, cost := range []float32{2.5, greatest} {
		wantTake(t, b.l, "", cost, 10, 0, api.ErrArg)
		wantOver(t, b.l, "a", cost, 10, last)
		wantOver(t, b.l, "b", cost, 10, last)
	}
	wantNames(t, b.l, "a")
	wantLevel(t, b.l, "a", 10, 1)
}

// L2: a cost of 0 is let in whatever the level is, and counts as a letting in.
func TestTakeNothing(t *testing.T) {
	for _, none := range []float32{0, minus0} {
		l := made(t, 0.5, 1)
		wantIn(t, l, "a", none, 10)
		wantNames(t, l, "a")
		wantLevel(t, l, "a", 10, 1)
		wantIn(t, l, "b", 1, 10)
		wantIn(t, l, "b", none, 10)
		wantNames(t, l, "b a")
		wantLevel(t, l, "b", 10, 0)
		wantIn(t, l, "a", none, 10)
		wantNames(t, l, "a b")
		wantIn(t, l, "b", none, 11) // the time that is kept is the later one, and the level is the one of it
		wantLevel(t, l, "b", 10, 0.5)
		wantLevel(t, l, "b", 12, 1)
	}
}

// L2: a cost that is just the level, and those beside it.
func TestTakeJust(t *testing.T) {
	for _, level := range []float32{0.5, 1, 1.25, 1 << 24, least, 0.1, greatest / 4} {
		for _, name := range []string{"a", "b"} {
			over := math.Nextafter32(level, infinite)
			l := made(t, 0, 2*level)
			wantIn(t, l, "b", level, 10)
			if name == "a" {
				l = made(t, 0, level)
			}
			wantOver(t, l, name, over, 10, last)
			wantLevel(t, l, name, 10, level)
			wantIn(t, l, name, level, 10)
			wantLevel(t, l, name, 10, 0)
			wantOver(t, l, name, least, 10, last)
			l = made(t, 0, level)
			under := math.Nextafter32(level, 0)
			wantIn(t, l, name, under, 10)
			wantLevel(t, l, name, 10, level-under)
		}
	}
}

// L2: what is taken is of the level at that time, and no more than burst.
func TestTakeFilled(t *testing.T) {
	l := made(t, 0.25, 2)
	wantIn(t, l, "a", 2, 100)
	wantIn(t, l, "a", 0.25, 103)
	wantLevel(t, l, "a", 103, 0.5)
	wantLevel(t, l, "a", 104, 0.75)
	wantIn(t, l, "a", 2, 1000)
	wantLevel(t, l, "a", 1000, 0)
	wantIn(t, l, "a", 0.5, 1002)
	wantOver(t, l, "a", 0.25, 1002, 1)
}

// L2: the later one of both times is kept, over rows of times that rise and fall.
func TestTakeTimes(t *testing.T) {
	l := made(t, 1, 100)
	wantIn(t, l, "a", 50, 1000) // 50 at 1000
	wantIn(t, l, "a", 10, 990)  // 40 at 1000
	wantIn(t, l, "a", 10, 0)    // 30 at 1000
	wantIn(t, l, "a", 10, -5)   // 20 at 1000
	wantIn(t, l, "a", 10, 1000) // 10 at 1000
	wantIn(t, l, "a", 10, 1001) // 1 at 1001
	wantLevel(t, l, "a", 1000, 1)
	wantLevel(t, l, "a", 1001, 1)
	wantLevel(t, l, "a", 1003, 3)
	wantOver(t, l, "a", 5, 999, 4) // the seconds count from the time that is kept on
	wantOver(t, l, "a", 5, math.MinInt, 4)
	wantOver(t, l, "a", 5, 1001, 4)
	wantOver(t, l, "a", 5, 1002, 3)
	wantOver(t, l, "a", 5, 1004, 1)
	wantIn(t, l, "a", 5, 1005)
	wantLevel(t, l, "a", 1005, 0)
	wantIn(t, l, "a", 95, 2000)
	wantLevel(t, l, "a", 1500, 5)
	wantLevel(t, l, "a", 2001, 6)
}

// L2: each now counts as the nearest time: below 0 as 0, above the last one as the last one.
func TestTakeNearest(t *testing.T) {
	for _, now := range []int{0, -1, -last, math.MinInt} {
		l := made(t, 1, 8)
		wantIn(t, l, "a", 8, now)
		wantLevel(t, l, "a", 0, 0)
		wantLevel(t, l, "a", 1, 1)
		wantLevel(t, l, "a", now, 0)
		wantOver(t, l, "a", 3, now, 3)
		wantIn(t, l, "a", 3, 3)
	}
	for _, now := range []int{last, last + 1, 2 * last, math.MaxInt} {
		l := made(t, 1, 8)
		wantIn(t, l, "a", 8, now)
		wantLevel(t, l, "a", math.MaxInt, 0)
		wantLevel(t, l, "a", last, 0)
		wantOver(t, l, "a", 3, now, 3)
		wantOver(t, l, "a", 3, math.MaxInt, 3)
		wantOver(t, l, "a", 3, 0, 3)
		l = made(t, 1, 8)
		wantIn(t, l, "a", 8, last-2)
		wantOver(t, l, "a", 3, now, 1)
		wantIn(t, l, "a", 2, now)
		wantLevel(t, l, "a", now, 0)
		wantLevel(t, l, "a", last-2, 0)
	}
}

// L2: times and amounts at which something might turn, all with all, held against the account.
func TestTakeOdd(t *testing.T) {
	for _, rate := range []float32{0, 1e-12, 0.5, greatest} {
		for _, burst := range []float32{1, greatest} {
			for _, first := range oddTimes() {
				b := bothOf(t, rate, burst)
				b.take("a", burst, first)
				b.take("b", burst/2, first)
				for _, now := range oddTimes() {
					b.level("a", now)
					b.level("c", now)
					b.take("a", burst, now)
					b.take("b", burst/2, now)
				}
			}
		}
	}
}

// L2: a seventeenth name: the one that was let in longest ago is kept no more, whatever the times are.
func TestTakeMany(t *testing.T) {
	for _, c := range []struct{ first, step int }{{1000, 0}, {1000, 7}, {1000, -7}, {-5, -1}, {last, 1}} {
		l := made(t, 0, 4)
		all := strings.Split("abcdefghijklmnop", "")
		for n, name := range all {
			wantIn(t, l, name, 1, c.first+n*c.step)
		}
		wantNames(t, l, "p o n m l k j i h g f e d c b a")
		wantIn(t, l, "a", 1, c.first)
		wantIn(t, l, "c", 1, c.first)
		wantNames(t, l, "c a p o n m l k j i h g f e d b")
		wantOver(t, l, "b", 4, c.first, last)      // who isn't let in stays where it is
		wantTake(t, l, "b", -1, 0, 0, api.ErrArg)  // so does who asked what may not be
		wantOver(t, l, "new", 5, c.first, last)    // and one that isn't kept puts nobody out
		wantLevel(t, l, "new2", c.first, 4)        // nor does telling
		wantTake(t, l, "New", 1, 0, 0, api.ErrArg) // nor a text that is no name
		wantNames(t, l, "c a p o n m l k j i h g f e d b")
		wantIn(t, l, "q", 1, c.first-100)
		wantNames(t, l, "q c a p o n m l k j i h g f e d")
		wantLevel(t, l, "b", last, 4)
		wantLevel(t, l, "d", last, 3)
		wantLevel(t, l, "a", last, 2)
		wantIn(t, l, "q", 1, c.first)
		wantNames(t, l, "q c a p o n m l k j i h g f e d")
		wantIn(t, l, "d", 0, c.first)
		wantNames(t, l, "d q c a p o n m l k j i h g f e")
		wantIn(t, l, "b", 3, c.first) // it comes back full
		wantNames(t, l, "b d q c a p o n m l k j i h g f")
		wantLevel(t, l, "b", last, 1)
		wantLevel(t, l, "e", last, 4)
		wantLevel(t, l, "f", last, 3)
	}
}

// L2: a name that is kept no more has lost its time, too.
func TestTakeTimeForgotten(t *testing.T) {
	l := made(t, 1, 10)
	wantIn(t, l, "a", 10, 5000)
	for n := range room {
		wantIn(t, l, string(rune('b'+n)), 1, 5000)
	}
	wantLevel(t, l, "a", 0, 10)
	wantIn(t, l, "a", 10, 7)
	wantLevel(t, l, "a", 7, 0)
	wantLevel(t, l, "a", 9, 2)
	wantOver(t, l, "a", 3, 7, 3)
}

// L2: sixteen names that come round again and again are all kept, a seventeenth that comes round with them puts out each one in turn.
func TestTakeRound(t *testing.T) {
	l := made(t, 0, 5)
	for turn := range 5 {
		for n := range room {
			wantIn(t, l, string(rune('a'+n)), 1, 0)
			wantLevel(t, l, string(rune('a'+n)), 0, float32(4-turn))
		}
	}
	l = made(t, 0, 5)
	for range 5 {
		for n := range room + 1 {
			wantIn(t, l, string(rune('a'+n)), 1, 0)
			wantLevel(t, l, string(rune('a'+n)), 0, 4)
		}
	}
}

// L2: names that have a beginning in common, and those that are alike but for one sign, are names of their own.
func TestTakeAlike(t *testing.T) {
	l := made(t, 0, 4)
	for n, name := range []string{"a", "aa", "aaa", "a.", "a-", "a_", "aaaaaaaaaaaaaaaa", "aaaaaaaaaaaaaaa", "ab", "ba"} {
		wantLevel(t, l, name, 0, 4)
		wantIn(t, l, name, float32(n)/4, 0)
		wantLevel(t, l, name, 0, 4-float32(n)/4)
	}
	wantNames(t, l, "ba ab aaaaaaaaaaaaaaa aaaaaaaaaaaaaaaa a_ a- a. aaa aa a")
}
