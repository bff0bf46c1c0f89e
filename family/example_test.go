package family_test

import (
	"testing"

	"latchkey/api"
	"latchkey/family"
	"latchkey/record"
)

// wantVerdict is that Judge says that, and that it is what the document says of it.
func wantVerdict(t *testing.T, what string, f api.Family, k api.Token, now, want int) {
	t.Helper()
	if said := verdict(f, k, now); said != want {
		t.Fatalf("%s at %d: the test is wrong: %d, and the model says %d", what, now, want, said)
	}
	if got := family.Judge(f, k, now); got != want {
		t.Errorf("%s at %d: %d, want %d", what, now, got, want)
	}
}

// Example 1.
func TestExampleVerdicts(t *testing.T) {
	f, k := begun(t)
	wantVerdict(t, "the first one", f, k, 110, api.VerdictFresh)
	g, spent, fresh, errno := family.Rotate(f, k, 3, secret("n"), 110)
	if !spent.Spent || spent.At != 110 || spent.Next != 3 || errno != api.OK {
		t.Fatalf("%#v, %d", spent, errno)
	}
	wantVerdict(t, "the first one", g, spent, 119, api.VerdictReplay)
	wantVerdict(t, "the first one", g, spent, 120, api.VerdictReuse)
	wantVerdict(t, "the second one", g, fresh, 120, api.VerdictFresh)
	wantVerdict(t, "the first one", g, spent, 160, api.VerdictExpired)
	if at := record.End(g); at != 160 {
		t.Errorf("END is %d", at)
	}
}

// Example 2.
func TestExampleFinish(t *testing.T) {
	f, spent, fresh := rotated(t)
	f, errno := family.Finish(f, api.Reused, 120)
	if errno != api.OK {
		t.Fatalf("Finish: %d", errno)
	}
	for now := 120; now < 400; now++ {
		wantVerdict(t, "the first one", f, spent, now, api.VerdictEnded)
		wantVerdict(t, "the second one", f, fresh, now, api.VerdictEnded)
	}
	if family.Over(f, 30, 149) || !family.Over(f, 30, 150) {
		t.Errorf("Over at 149: %v, at 150: %v", family.Over(f, 30, 149), family.Over(f, 30, 150))
	}
}

// Example 3.
func TestExampleTell(t *testing.T) {
	f, spent, fresh := rotated(t)
	want := api.Info{Active: true, Client: "app", Subject: "ann", Scope: []string{"read"}, Family: 1, Issued: 110, End: 160, Gen: 2}
	if got := family.Tell(f, fresh, 130); !same(got, want) {
		t.Errorf("of the second one: %#v", got)
	}
	if got := family.Tell(f, spent, 130); !same(got, api.Info{}) {
		t.Errorf("of the first one: %#v", got)
	}
}

// Example 4.
func TestExampleNoGrace(t *testing.T) {
	b := usual()
	b.client.Grace = 0
	f, k, _ := b.begin()
	f, spent, _, errno := family.Rotate(f, k, 3, secret("n"), 110)
	if errno != api.OK {
		t.Fatalf("Rotate: %d", errno)
	}
	for now := 110; now < 160; now++ {
		wantVerdict(t, "without a grace", f, spent, now, api.VerdictReuse)
	}
}

// The document's examples 1 and 2 of the whole, for the family alone.
func TestExampleOfTheWhole(t *testing.T) {
	f, k := begun(t)
	wantEnd := func(f api.Family, want int) {
		t.Helper()
		if !family.Alive(f, want-1) || family.Alive(f, want) {
			t.Errorf("alive at %d: %v, at %d: %v", want-1, family.Alive(f, want-1), want, family.Alive(f, want))
		}
	}
	wantEnd(f, 150)
	for n, x := range []struct{ now, end int }{{110, 160}, {159, 209}, {205, 220}} {
		var errno api.Errno
		if f, _, k, errno = family.Rotate(f, k, 3+n, secret("n"), x.now); errno != api.OK {
			t.Fatalf("Rotate at %d: %d", x.now, errno)
		}
		wantEnd(f, x.end)
	}
	wantVerdict(t, "at its end", f, k, 219, api.VerdictFresh)
	wantVerdict(t, "at its end", f, k, 220, api.VerdictExpired)
	if _, _, _, errno := family.Rotate(f, k, 9, secret("n"), 220); errno != api.ErrArg {
		t.Errorf("Rotate at its end: %d", errno)
	}
}
