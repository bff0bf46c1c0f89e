package family_test

import (
	"reflect"
	"testing"

	"latchkey/api"
	"latchkey/family"
)

// wantFinished is that Finish answers that error, and that the document says so.
func wantFinished(t *testing.T, what string, f api.Family, state, now int, want api.Errno) {
	t.Helper()
	if errno := wantFinish(t, f, state, now); errno != want {
		t.Fatalf("%s: Finish(%#v, %d, %d): %d, want %d", what, f, state, now, errno, want)
	}
}

// F5: each field.
func TestFinishFields(t *testing.T) {
	f, _, _ := rotated(t)
	f.Code = 77
	was := f
	for state := api.Revoked; state <= api.Expired; state++ {
		g, errno := family.Finish(f, state, 130)
		want := api.Family{ID: 1, Client: "app", Subject: "ann", Scope: []string{"read"}, Created: 100, Used: 110, Idle: 50, Absolute: 120, Grace: 10, Gen: 2, Token: 3, State: state, Ended: 130, Code: 77}
		if !reflect.DeepEqual(g, want) || errno != api.OK {
			t.Errorf("%#v, %d", g, errno)
		}
		if !reflect.DeepEqual(f, was) {
			t.Errorf("what went in: %#v", f)
		}
	}
}

// F5: states that are none of an end.
func TestFinishStates(t *testing.T) {
	f, _, _ := rotated(t)
	for _, state := range append(someNumbers(), 256+2, 1<<32+3) {
		want := api.ErrArg
		if state == 2 || state == 3 || state == 4 {
			want = api.OK
		}
		wantFinished(t, "a state", f, state, 130, want)
	}
}

// F5: ahead of Used, at it, behind the family's END (it may end in any state then), at numbers that are no times.
func TestFinishTimes(t *testing.T) {
	f, _, _ := rotated(t)
	for _, k := range []struct {
		now  int
		want api.Errno
	}{
		{least, api.ErrArg}, {0, api.ErrArg}, {100, api.ErrArg}, {109, api.ErrArg}, {110, api.OK}, {111, api.OK}, {159, api.OK}, {160, api.OK}, {500, api.OK},
		{lastTime, api.OK}, {lastTime + 1, api.OK}, {most, api.OK},
	} {
		for state := api.Revoked; state <= api.Expired; state++ {
			wantFinished(t, "a time", f, state, k.now, k.want)
		}
	}
	if g, _ := family.Finish(f, api.Expired, most); g.Ended != lastTime {
		t.Errorf("Ended: %d", g.Ended)
	}
	b := usual()
	b.now = -1
	f, _, _ = b.begin()
	wantFinished(t, "below 0", f, api.Revoked, least, api.OK)
	if g, _ := family.Finish(f, api.Revoked, -9); g.Ended != 0 || g.State != api.Revoked {
		t.Errorf("%#v", g)
	}
}

// F5: one that has ended stays as it ended; one that may not be is refused.
func TestFinishOnce(t *testing.T) {
	f, _, _ := rotated(t)
	for one := api.Revoked; one <= api.Expired; one++ {
		g, _ := family.Finish(f, one, 130)
		for two := 0; two <= 5; two++ {
			wantFinished(t, "again", g, two, 140, api.ErrArg)
		}
	}
	eachField(f, func(g api.Family) {
		for state := 0; state <= 5; state++ {
			for _, now := range []int{109, 130, 160} {
				if errno := wantFinish(t, g, state, now); (!familyOK(g) || g.State != api.Active) && errno != api.ErrArg {
					t.Fatalf("Finish(%#v, %d, %d): %d", g, state, now, errno)
				}
			}
		}
	})
	wantFinished(t, "nothing", api.Family{}, api.Revoked, 0, api.ErrArg)
}

// F6: every field, of unlike ones, at the first and the last time at which it is told.
func TestTellFields(t *testing.T) {
	f := api.Family{ID: 11, Client: "cli", Subject: "sub", Scope: []string{"a", "b"}, Created: 20, Used: 30, Idle: 44, Absolute: 55, Grace: 6, Gen: 7, Token: 88, State: api.Active, Code: 99}
	k := api.Token{ID: 88, Family: 11, Gen: 7, Hash: many(32, "h"), Minted: 25}
	want := api.Info{Active: true, Client: "cli", Subject: "sub", Scope: []string{"a", "b"}, Family: 11, Issued: 25, End: 74, Gen: 7}
	for _, now := range []int{least, 0, 30, 73} {
		if got := family.Tell(f, k, now); !reflect.DeepEqual(got, want) {
			t.Errorf("at %d: %#v", now, got)
		}
	}
	if got := family.Tell(f, k, 74); !reflect.DeepEqual(got, api.Info{}) {
		t.Errorf("at its end: %#v", got)
	}
	f.Idle = 46
	if got := family.Tell(f, k, 74); got.End != 75 {
		t.Errorf("by its age: %#v", got)
	}
	f.Scope = nil
	if got := family.Tell(f, k, 74); !got.Active || len(got.Scope) != 0 {
		t.Errorf("without a scope: %#v", got)
	}
}

// F6: of each other verdict the zero Info.
func TestTellOthers(t *testing.T) {
	f, spent, fresh := rotated(t)
	_, first := begun(t)
	ended, _ := family.Finish(f, api.Revoked, 130)
	other := fresh
	other.Family = 2
	for _, k := range []struct {
		f         api.Family
		k         api.Token
		now, want int
	}{
		{f, fresh, 120, api.VerdictFresh}, {f, spent, 115, api.VerdictReplay}, {f, spent, 120, api.VerdictReuse}, {f, fresh, 160, api.VerdictExpired}, {f, spent, 160, api.VerdictExpired},
		{ended, fresh, 120, api.VerdictEnded}, {ended, fresh, 160, api.VerdictEnded}, {f, first, 120, 0}, {f, other, 120, 0}, {f, api.Token{}, 120, 0}, {api.Family{}, fresh, 120, 0},
	} {
		wantVerdict(t, "to be told", k.f, k.k, k.now, k.want)
		if active := wantTell(t, k.f, k.k, k.now); active != (k.want == api.VerdictFresh) {
			t.Errorf("the verdict %d: active %v", k.want, active)
		}
	}
	for _, f := range someFamilies() {
		for _, k := range ofFamily(f) {
			for _, now := range nearTimes(f, k) {
				wantTell(t, f, k, now)
			}
		}
	}
}
