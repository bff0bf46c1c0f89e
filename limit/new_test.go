package limit_test

import (
	"testing"

	"latchkey/api"
	"latchkey/limit"
)

func wantNoNew(t *testing.T, rate, burst float32) {
	t.Helper()
	if l, errno := limit.New(rate, burst); l != nil || errno != api.ErrLimitConfig {
		t.Errorf("New(%g, %g): %v, %d", rate, burst, l != nil, errno)
	}
}

// L1: numbers that may not be, one alone or both.
func TestNewRefused(t *testing.T) {
	wrong := wrongAmounts()
	for _, x := range wrong {
		for _, y := range append(oddAmounts(), wrong...) {
			wantNoNew(t, x, y)
			wantNoNew(t, y, x)
		}
	}
	for _, rate := range oddAmounts() {
		wantNoNew(t, rate, 0)
		wantNoNew(t, rate, minus0)
	}
}

// L1: numbers that may be; a limiter that is made keeps no name, and each name is full.
func TestNewMade(t *testing.T) {
	count := 0
	for _, rate := range oddAmounts() {
		for _, burst := range oddAmounts() {
			if burst == 0 {
				continue
			}
			count++
			b := bothOf(t, rate, burst)
			wantNames(t, b.l, "")
			for _, now := range []int{-1, 0, 5, last, last + 1} {
				wantLevel(t, b.l, "a", now, burst)
				wantLevel(t, b.l, "", now, burst)
			}
			b.take("a", burst, 5)
			b.take("a", 0, 5)
			wantLevel(t, b.l, "a", 5, 0)
			b.level("a", 6)
			b.level("a", last)
			b.take("a", least, 5)
			b.take("a", burst, 1<<30)
		}
	}
	if count < 100 {
		t.Fatal("the test is wrong")
	}
}

// L1: a rate of minus 0 is one of 0.
func TestNewMinusZero(t *testing.T) {
	l := made(t, minus0, 2)
	wantIn(t, l, "a", 1.5, 10)
	wantLevel(t, l, "a", last, 0.5)
	wantOver(t, l, "a", 1, 20, last)
	wantIn(t, l, "a", 0.5, 20)
	wantLevel(t, l, "a", last, 0)
	wantOver(t, l, "a", least, 20, last)
	wantIn(t, l, "a", 0, 30)
	wantIn(t, l, "a", minus0, 40)
	wantLevel(t, l, "a", 50, 0)
}
