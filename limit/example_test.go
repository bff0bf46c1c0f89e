package limit_test

import (
	"strings"
	"testing"

	"latchkey/api"
	"latchkey/limit"
)

// The chapter's first example.
func TestExampleWaits(t *testing.T) {
	l := made(t, 0.5, 2)
	wantIn(t, l, "a", 1, 100)
	wantIn(t, l, "a", 1, 100)
	wantOver(t, l, "a", 1, 100, 2)
	wantOver(t, l, "a", 1, 101, 1)
	wantIn(t, l, "a", 1, 102)
	wantLevel(t, l, "a", 102, 0)
	wantLevel(t, l, "a", 103, 0.5)
	wantLevel(t, l, "b", 0, 2)
}

// The chapter's second example.
func TestExampleNever(t *testing.T) {
	l := made(t, 0.5, 2)
	wantIn(t, l, "a", 1, 100)
	wantOver(t, l, "a", 3, 200, 1<<40)
	wantOver(t, l, "b", 3, 200, 1<<40)
	l = made(t, 0, 1)
	wantIn(t, l, "a", 1, 5)
	wantOver(t, l, "a", 1, 5, 1<<40)
	wantOver(t, l, "a", 1, 1<<40, 1<<40)
}

// The chapter's third example.
func TestExampleAhead(t *testing.T) {
	l := made(t, 0.5, 2)
	wantIn(t, l, "a", 1, 100)
	wantIn(t, l, "a", 1, 90)
	wantOver(t, l, "a", 1, 90, 2)
	wantOver(t, l, "a", 1, 100, 2)
	wantOver(t, l, "a", 1, 101, 1)
	wantLevel(t, l, "a", 90, 0)
	wantLevel(t, l, "a", 100, 0)
	wantLevel(t, l, "a", 101, 0.5)
	wantIn(t, l, "a", 1, 102)
}

// The chapter's fourth example.
func TestExampleNames(t *testing.T) {
	l := made(t, 1, 1)
	for _, name := range strings.Split("abcdefghijklmnop", "") {
		wantIn(t, l, name, 1, 10)
	}
	wantNames(t, l, "p o n m l k j i h g f e d c b a")
	wantIn(t, l, "q", 1, 10)
	wantNames(t, l, "q p o n m l k j i h g f e d c b")
	for _, c := range [][2]float32{{-1, 1}, {1, 0}} {
		if l, errno := limit.New(c[0], c[1]); l != nil || errno != api.ErrLimitConfig {
			t.Fatalf("New(%g, %g): %d", c[0], c[1], errno)
		}
	}
	wantTake(t, l, "", 1, 0, 0, api.ErrArg)
	wantTake(t, l, "a", -1, 0, 0, api.ErrArg)
}
