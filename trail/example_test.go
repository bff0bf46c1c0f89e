package trail_test

import (
	"testing"

	"latchkey/api"
	"latchkey/trail"
)

// Example 1.
func TestExampleFirstNotes(t *testing.T) {
	_, x := began(t, 40)
	wantTrail(t, "just laid", x, api.Chain{Base: 0, Next: 1, BaseHash: noughts, NextHash: noughts}, nil)
	wantNote(t, x, api.EventClient, 0, "app", 1, api.OK)
	wantNote(t, x, api.EventIssue, 3, "app", 2, api.OK)
	c, l, errno := trail.Read(x)
	if c.Base != 0 || c.Next != 3 || len(l) != 2 || errno != api.OK {
		t.Fatalf("%v, %v, %d", c, l, errno)
	}
	wantVerify(t, "as it was read", c, l, api.OK)
	wantVerify(t, "the other way round", c, []api.Event{l[1], l[0]}, api.ErrTrailChain)
	l[1].Kind = 10
	wantVerify(t, "a kind 10", c, l, api.ErrTrailField)
}

// Example 2.
func TestExampleOldestGoes(t *testing.T) {
	_, x := began(t, 40)
	none, _, _ := trail.Read(x)
	var one api.Chain
	for n := 1; n <= 33; n++ {
		wantNote(t, x, api.EventRotate, 3, "app", n, api.OK)
		if n == 1 {
			one, _, _ = trail.Read(x)
		}
	}
	c, l, errno := trail.Read(x)
	if c.Base != 1 || c.Next != 34 || len(l) != 32 || errno != api.OK {
		t.Fatalf("%v, %d events, %d", c, len(l), errno)
	}
	for n, e := range l {
		if e.Number != n+2 {
			t.Fatalf("the %d-th is %d", n, e.Number)
		}
	}
	wantGoes(t, "from behind the first", one, c, l, api.OK)
	wantGoes(t, "from behind none", none, c, l, api.ErrTrailChain)
}

// Example 3.
func TestExampleWrongNotes(t *testing.T) {
	_, x := began(t, 40)
	wantNote(t, x, 0, 0, "", 0, api.ErrTrailField)
	wantNote(t, x, 7, -1, "", 0, api.ErrTrailField)
	wantTrail(t, "behind these", x, first(), nil)
}
