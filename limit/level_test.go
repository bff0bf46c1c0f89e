package limit_test

import (
	"math"
	"math/rand"
	"strings"
	"testing"
)

// L3: the level of a name that is not kept, and of a text that is no name, is burst at any time.
func TestLevelNotKept(t *testing.T) {
	b := bothOf(t, 0.5, 2)
	b.take("a", 1.5, 100)
	for _, now := range oddTimes() {
		for _, name := range append(wrongNames(), "b", "aa", "-") {
			wantLevel(t, b.l, name, now, 2)
		}
	}
	b.names()
	wantLevel(t, b.l, "a", 100, 0.5)
}

// L3: the level of a name that is kept, ahead of the time that is kept, at it, behind it, and up to burst.
func TestLevelKept(t *testing.T) {
	l := made(t, 0.25, 2)
	wantIn(t, l, "a", 1.5, 100)
	for _, c := range []struct {
		now  int
		want float32
	}{
		{math.MinInt, 0.5}, {-1, 0.5}, {0, 0.5}, {99, 0.5}, {100, 0.5}, {101, 0.75}, {102, 1}, {103, 1.25},
		{105, 1.75}, {106, 2}, {107, 2}, {1000, 2}, {last, 2}, {last + 1, 2}, {math.MaxInt, 2}, {101, 0.75},
	} {
		wantLevel(t, l, "a", c.now, c.want)
	}
}

// L3: each step is rounded by itself: neither are the product and the sum rounded but once, nor are seconds parted into two float32s.
func TestLevelRounded(t *testing.T) {
	r := rand.New(rand.NewSource(5))
	atOnce, parted := 0, 0
	for range 100000 {
		rate, burst := r.Float32(), 1+1000*r.Float32()
		start, d := r.Intn(1000), 1+r.Intn(1<<r.Intn(30))
		l := made(t, rate/float32(d), burst)
		wantIn(t, l, "a", burst*r.Float32(), start)
		level := l.Level("a", start)
		want := rises(rate/float32(d), burst, level, d)
		wantLevel(t, l, "a", start+d, want)
		if !same(want, min(burst, float32(math.FMA(float64(float32(d)), float64(rate/float32(d)), float64(level))))) {
			atOnce++
		}
		if !same(want, min(burst, level+float32(float32(start+d)*(rate/float32(d)))-float32(float32(start)*(rate/float32(d))))) {
			parted++
		}
	}
	if atOnce < 300 || parted < 1000 {
		t.Fatal("the test is wrong", atOnce, parted)
	}
	// 2^24 + 1 has no float32 of its own; that of 2^24 + 3 is 2^24 + 4.
	l := made(t, 1, 1<<25)
	wantIn(t, l, "a", 1<<25, 0)
	wantLevel(t, l, "a", 1<<24-1, 1<<24-1)
	wantLevel(t, l, "a", 1<<24, 1<<24)
	wantLevel(t, l, "a", 1<<24+1, 1<<24)
	wantLevel(t, l, "a", 1<<24+2, 1<<24+2)
	wantLevel(t, l, "a", 1<<24+3, 1<<24+4)
	wantOver(t, l, "a", 1<<24+4, 1<<24+1, 2)
	wantOver(t, l, "a", 1<<24+4, 1<<24+2, 1)
	wantIn(t, l, "a", 1<<24+4, 1<<24+3)
}

// L3: neither tells a change: whatever is asked, at whatever times, all is as it was.
func TestTellingChangesNothing(t *testing.T) {
	b := bothOf(t, 0.5, 4)
	for n, name := range strings.Split("abcdefghijklmnop", "") {
		b.take(name, float32(n)/4, 1000+n)
	}
	for _, now := range oddTimes() {
		for _, name := range []string{"a", "b", "p", "q", "new", "", "A"} {
			b.l.Level(name, now)
			b.l.Names()
		}
	}
	wantNames(t, b.l, "p o n m l k j i h g f e d c b a")
	for n, name := range strings.Split("abcdefghijklmnop", "") {
		wantLevel(t, b.l, name, 0, 4-float32(n)/4)
		wantLevel(t, b.l, name, 1001+n, min(4, 4.5-float32(n)/4))
	}
}

// L3: the list of names is new memory each time, and who writes into it, or into its spare room, changes nothing.
func TestNamesNew(t *testing.T) {
	l := made(t, 1, 2)
	if got := l.Names(); len(got) != 0 {
		t.Fatalf("Names: %q", got)
	}
	for _, name := range []string{"a", "b", "c"} {
		wantIn(t, l, name, 1, 10)
	}
	one, two := l.Names(), l.Names()
	one[0], one[2] = "x", "y"
	spare := append(one[:1], "u", "v", "w")
	if two[0] != "c" || two[2] != "a" || len(spare) != 4 {
		t.Fatalf("Names: %q", two)
	}
	wantNames(t, l, "c b a")
	wantIn(t, l, "d", 1, 10)
	if strings.Join(two, " ") != "c b a" {
		t.Fatalf("a list that was told has changed: %q", two)
	}
	all := l.Names()
	all = append(all, "e")
	clear(all[:cap(all)])
	wantNames(t, l, "d c b a")
	wantLevel(t, l, "a", 10, 1)
}
