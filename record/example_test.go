package record_test

import (
	"slices"
	"testing"

	"latchkey/api"
	"latchkey/record"
)

func TestExampleOne(t *testing.T) {
	k := api.Key{Number: 7, Secret: "ssssssssssssssssssssssss", From: 5, Until: 1099511627776}
	keys().wantPair(t, "example 1", k, api.Pair{Key: "k\x00\x00\x00\x07", Value: "ssssssssssssssssssssssss\x00\x00\x00\x00\x00\x05\x01\x00\x00\x00\x00\x00"})
	k.Until = 4
	keys().wantField(t, "until 4", k)
}

func TestExampleTwo(t *testing.T) {
	f := api.Family{ID: 3, Client: "app", Subject: "ann", Created: 100, Used: 100, Idle: 50, Absolute: 120, Gen: 1, Token: 4, State: api.Active}
	if end := record.End(f); end != 150 {
		t.Errorf("End: %d", end)
	}
	want := []api.Pair{{Key: "x\x00\x00\x00\x00\x00\x96\x00\x00\x00\x00\x00\x00\x00\x03"}, {Key: "sann\x00\x00\x00\x00\x00\x00\x00\x00\x03"}}
	if l, e := record.OfFamily(f); !slices.Equal(l, want) || e != api.OK {
		t.Errorf("OfFamily: %q, %d", l, e)
	}
	f.Used = 190
	if end := record.End(f); end != 220 {
		t.Errorf("End, used at 190: %d", end)
	}
	f.Used, f.State, f.Ended = 100, api.Revoked, 130
	if end := record.End(f); end != 130 {
		t.Errorf("End, ended at 130: %d", end)
	}
}

func TestExampleThree(t *testing.T) {
	if s, e := record.PrintNote(1, 0); s != "\x00\x00\x00\x00\x00\x00\x00\x01\x00\x00\x00\x00\x00\x00\x00\x00" || e != api.OK {
		t.Errorf("PrintNote(1, 0): %q, %d", s, e)
	}
	if s, e := record.PrintNote(0, 0); s != "" || e != api.ErrRecordField {
		t.Errorf("PrintNote(0, 0): %q, %d", s, e)
	}
}

func TestExampleFour(t *testing.T) {
	if got := look(api.Pair{Key: "x" + many(14, "\xff")}); got != none() {
		t.Errorf("no such time: %#v", got)
	}
	p := api.Pair{Key: "m\x00\x00\x00\x00\x00\x00\x00\x03\x00\x00\x00\x02", Value: "\x00\x00\x00\x00\x00\x00\x00\x09"}
	if got := look(p); got != (found{"m", 2, 3, "\x00\x00\x00\x00\x00\x00\x00\x09", api.OK}) {
		t.Errorf("a member: %#v", got)
	}
}

// DOC.md's first two examples of the whole: the ends of a family as it is used.
func TestExamplesOfTheWhole(t *testing.T) {
	f := api.Family{ID: 1, Client: "app", Subject: "ann", Created: 100, Idle: 50, Absolute: 120, Grace: 10, Gen: 2, Token: 2, State: api.Active}
	for used, want := range map[int]int{100: 150, 110: 160, 159: 209, 205: 220} {
		if f.Used = used; record.End(f) != want {
			t.Errorf("used at %d: %d, want %d", used, record.End(f), want)
		}
	}
}
