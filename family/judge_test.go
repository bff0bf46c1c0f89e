package family_test

import (
	"math/rand"
	"testing"

	"latchkey/api"
	"latchkey/family"
)

// F3: each verdict, at the times around which it becomes another one.
func TestJudgeVerdicts(t *testing.T) {
	f, spent, fresh := rotated(t) // Used 110, END 160; spent At 110, Grace 10
	_, first := begun(t)          // as it was ahead of the rotation
	ended, _ := family.Finish(f, api.Revoked, 130)
	for _, k := range []struct {
		what string
		f    api.Family
		k    api.Token
		now  int
		want int
	}{
		{"the current one", f, fresh, least, api.VerdictFresh}, {"the current one", f, fresh, 0, api.VerdictFresh}, {"the current one", f, fresh, 109, api.VerdictFresh},
		{"the current one", f, fresh, 110, api.VerdictFresh}, {"the current one", f, fresh, 159, api.VerdictFresh},
		{"the current one", f, fresh, 160, api.VerdictExpired}, {"the current one", f, fresh, 161, api.VerdictExpired}, {"the current one", f, fresh, most, api.VerdictExpired},
		{"the spent one", f, spent, 110, api.VerdictReplay}, {"the spent one", f, spent, 111, api.VerdictReplay}, {"the spent one", f, spent, 119, api.VerdictReplay},
		{"the spent one", f, spent, 120, api.VerdictReuse}, {"the spent one", f, spent, 121, api.VerdictReuse}, {"the spent one", f, spent, 159, api.VerdictReuse},
		{"the spent one", f, spent, 160, api.VerdictExpired}, {"the spent one", f, spent, most, api.VerdictExpired},
		{"ahead of its At", f, spent, 109, api.VerdictReuse}, {"ahead of its At", f, spent, 0, api.VerdictReuse}, {"ahead of its At", f, spent, least, api.VerdictReuse},
		{"as it was", f, first, 110, 0}, {"as it was", f, first, 120, 0}, {"as it was", f, first, 159, 0}, {"as it was", f, first, 160, api.VerdictExpired},
		{"of what has ended", ended, fresh, 110, api.VerdictEnded}, {"of what has ended", ended, spent, 111, api.VerdictEnded}, {"of what has ended", ended, first, 129, api.VerdictEnded},
		{"of what has ended", ended, fresh, 130, api.VerdictEnded}, {"of what has ended", ended, fresh, 160, api.VerdictEnded}, {"of what has ended", ended, spent, most, api.VerdictEnded},
		{"of what has ended", ended, fresh, least, api.VerdictEnded},
	} {
		wantVerdict(t, k.what, k.f, k.k, k.now, k.want)
	}
}

// F3: a token that is not Spent must have both the ID and the Gen of the family.
func TestJudgeCurrent(t *testing.T) {
	f, _, fresh := rotated(t)
	for _, id := range []int{1, 2, 3, 4, lastID} {
		for _, gen := range []int{1, 2, 3, lastGen} {
			k := fresh
			k.ID, k.Gen = id, gen
			want := 0
			if id == 3 && gen == 2 {
				want = api.VerdictFresh
			}
			wantVerdict(t, "a token that is not spent", f, k, 120, want)
			wantVerdict(t, "a token that is not spent", f, k, 160, api.VerdictExpired)
		}
	}
}

// F3: a Spent one is never the current one, also if its ID and Gen are the family's.
func TestJudgeSpentCurrent(t *testing.T) {
	f, spent, _ := rotated(t)
	spent.ID, spent.Gen = f.Token, f.Gen
	wantVerdict(t, "a spent one in the current one's place", f, spent, 119, api.VerdictReplay)
	wantVerdict(t, "a spent one in the current one's place", f, spent, 120, api.VerdictReuse)
	if got := family.Tell(f, spent, 119); !same(got, api.Info{}) {
		t.Errorf("Tell: %#v", got)
	}
}

// F3: a token of another family is worth nothing, whatever else holds.
func TestJudgeOther(t *testing.T) {
	f, spent, fresh := rotated(t)
	ended, _ := family.Finish(f, api.Revoked, 130)
	for _, id := range []int{2, 3, lastID} {
		for _, k := range []api.Token{spent, fresh} {
			k.Family = id
			for _, now := range []int{0, 110, 119, 120, 160, most} {
				wantVerdict(t, "another family's", f, k, now, 0)
				wantVerdict(t, "another family's", ended, k, now, 0)
			}
		}
	}
}

// F3: Within's edges, at several graces and times.
func TestJudgeGrace(t *testing.T) {
	f, spent, _ := rotated(t)
	f.Idle, f.Absolute = lastTime, lastTime
	for _, at := range []int{100, 110, 5000, lastTime - 200} {
		for _, grace := range []int{0, 1, 2, 10, 100} {
			f.Grace, f.Used, spent.At = grace, at, at
			for now := at - 2; now < at+grace+3; now++ {
				want := api.VerdictReuse
				if now >= at && now < at+grace {
					want = api.VerdictReplay
				}
				wantVerdict(t, "a spent one", f, spent, now, want)
			}
		}
	}
	f.Grace, spent.At = lastTime, 100
	wantVerdict(t, "with the greatest grace", f, spent, lastTime-1, api.VerdictReplay)
	wantVerdict(t, "with the greatest grace", f, spent, lastTime, api.VerdictExpired)
	wantVerdict(t, "with the greatest grace", f, spent, 99, api.VerdictReuse)
}

// F3: a family or a token that may not be: of each wrong field alone nothing is said, whatever state and time it is.
func TestJudgeMayNotBe(t *testing.T) {
	f, spent, fresh := rotated(t)
	ended, _ := family.Finish(f, api.Revoked, 130)
	wrong := 0
	for _, base := range []api.Family{f, ended} {
		eachField(base, func(g api.Family) {
			for _, k := range []api.Token{spent, fresh} {
				k.Family = g.ID
				for _, now := range []int{115, 130, 160} {
					if got := wantJudge(t, g, k, now); !familyOK(g) && got != 0 {
						t.Fatalf("Judge(%#v, %#v, %d): %d", g, k, now, got)
					}
				}
			}
			if !familyOK(g) {
				wrong++
			}
		})
		for _, base := range []api.Token{spent, fresh} {
			eachField(base, func(k api.Token) {
				for _, now := range []int{115, 130, 160} {
					if got := wantJudge(t, f, k, now); !tokenOK(k) && got != 0 {
						t.Fatalf("Judge(%#v, %#v, %d): %d", f, k, now, got)
					}
				}
				if !tokenOK(k) {
					wrong++
				}
			})
		}
	}
	if wrong < 400 {
		t.Errorf("the test is wrong: only %d may not be", wrong)
	}
	if got := family.Judge(api.Family{}, api.Token{}, 0); got != 0 {
		t.Errorf("of nothing: %d", got)
	}
}

// F3: all families with all of their tokens, at all times at which something may become another thing; and each verdict comes.
func TestJudgeAll(t *testing.T) {
	var seen [6]int
	for _, f := range someFamilies() {
		for _, k := range ofFamily(f) {
			for _, now := range nearTimes(f, k) {
				seen[wantJudge(t, f, k, now)]++
			}
		}
	}
	for v, n := range seen {
		if n < 20 {
			t.Errorf("the test is wrong: the verdict %d comes %d times", v, n)
		}
	}
}

// All calls, of records drawn at random in which nothing, something or much is wrong.
func TestAllDrawn(t *testing.T) {
	r := rand.New(rand.NewSource(3))
	fresh := 0
	for range 40000 {
		f := pick(r, someFamilies()...)
		k := pick(r, ofFamily(f)...)
		f, k = spoilt(r, f, pick(r, 0, 0, 1, 2)), spoilt(r, k, pick(r, 0, 0, 1, 2))
		now := pick(r, pick(r, nearTimes(f, k)...), pick(r, someNumbers()...))
		wantAll(t, f, k, pick(r, 5, 5, pick(r, somePlaces()...)), pick(r, secret("n"), pick(r, someTexts()...)), pick(r, 2, 3, 4, pick(r, someNumbers()...)), pick(r, someNumbers()...), now)
		if verdict(f, k, now) == api.VerdictFresh {
			fresh++
		}
	}
	if fresh < 400 {
		t.Errorf("the test is wrong: only %d are fresh", fresh)
	}
}
