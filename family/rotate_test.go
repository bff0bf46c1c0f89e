package family_test

import (
	"math/rand"
	"reflect"
	"slices"
	"testing"

	"latchkey/api"
	"latchkey/family"
	"latchkey/token"
)

// wantRotated is that Rotate answers that error, and that the document says so.
func wantRotated(t *testing.T, what string, f api.Family, k api.Token, next int, secret string, now int, want api.Errno) {
	t.Helper()
	if errno := wantRotate(t, f, k, next, secret, now); errno != want {
		t.Fatalf("%s: %d, want %d", what, errno, want)
	}
}

// F4: all three records, field by field, twice behind one another; nothing of what went in is changed.
func TestRotateFields(t *testing.T) {
	f, k := begun(t)
	f.Code = 77
	wasF, wasK := f, k
	wasF.Scope = slices.Clone(f.Scope)
	g, spent, fresh, errno := family.Rotate(f, k, 3, secret("n"), 110)
	text, _ := token.Mint(api.Refresh, 3, secret("n"))
	wantG := api.Family{ID: 1, Client: "app", Subject: "ann", Scope: []string{"read"}, Created: 100, Used: 110, Idle: 50, Absolute: 120, Grace: 10, Gen: 2, Token: 3, State: api.Active, Code: 77}
	wantSpent := api.Token{ID: 2, Family: 1, Gen: 1, Hash: k.Hash, Minted: 100, Spent: true, At: 110, Next: 3, Secret: secret("n")}
	wantFresh := api.Token{ID: 3, Family: 1, Gen: 2, Hash: token.Hash(text), Minted: 110}
	if !reflect.DeepEqual(g, wantG) || spent != wantSpent || fresh != wantFresh || errno != api.OK {
		t.Errorf("%#v, %#v, %#v, %d", g, spent, fresh, errno)
	}
	h, again, third, errno := family.Rotate(g, fresh, 9, secret("o"), 110)
	text, _ = token.Mint(api.Refresh, 9, secret("o"))
	wantG.Gen, wantG.Token = 3, 9
	wantSpent = api.Token{ID: 3, Family: 1, Gen: 2, Hash: fresh.Hash, Minted: 110, Spent: true, At: 110, Next: 9, Secret: secret("o")}
	wantFresh = api.Token{ID: 9, Family: 1, Gen: 3, Hash: token.Hash(text), Minted: 110}
	if !reflect.DeepEqual(h, wantG) || again != wantSpent || third != wantFresh || errno != api.OK {
		t.Errorf("%#v, %#v, %#v, %d", h, again, third, errno)
	}
	if !reflect.DeepEqual(f, wasF) || k != wasK {
		t.Errorf("what went in: %#v, %#v", f, k)
	}
}

// F4: each verdict but Fresh is refused.
func TestRotateVerdicts(t *testing.T) {
	f, spent, fresh := rotated(t)
	_, first := begun(t)
	ended, _ := family.Finish(f, api.Revoked, 130)
	other := fresh
	other.Family = 2
	for _, k := range []struct {
		what string
		f    api.Family
		k    api.Token
		now  int
		want api.Errno
	}{
		{"fresh", f, fresh, 110, api.OK}, {"fresh", f, fresh, 159, api.OK}, {"replay", f, spent, 111, api.ErrArg}, {"reuse", f, spent, 120, api.ErrArg},
		{"expired", f, fresh, 160, api.ErrArg}, {"expired", f, fresh, most, api.ErrArg}, {"ended", ended, fresh, 130, api.ErrArg}, {"ended", ended, spent, 130, api.ErrArg},
		{"none", f, first, 120, api.ErrArg}, {"another family's", f, other, 120, api.ErrArg}, {"no family", api.Family{}, fresh, 120, api.ErrArg}, {"no token", f, api.Token{}, 120, api.ErrArg},
	} {
		wantRotated(t, k.what, k.f, k.k, 4, secret("x"), k.now, k.want)
	}
}

// F4: the next ID, at its edges; it may be one that was there.
func TestRotateNext(t *testing.T) {
	f, k := begun(t)
	for _, next := range somePlaces() {
		want := api.ErrArg
		if isID(next) {
			want = api.OK
		}
		wantRotated(t, "next", f, k, next, secret("n"), 110, want)
	}
	for _, x := range []struct {
		next int
		want api.Errno
	}{{-1, api.ErrArg}, {0, api.ErrArg}, {1, api.OK}, {2, api.OK}, {1 << 62, api.OK}, {1<<62 + 1, api.ErrArg}} {
		wantRotated(t, "next", f, k, x.next, secret("n"), 110, x.want)
	}
}

// F4: secrets of each size.
func TestRotateSecret(t *testing.T) {
	f, k := begun(t)
	for size := range 60 {
		for _, letter := range []string{"s", "\x00", "\xff"} {
			want := api.ErrArg
			if size == 24 {
				want = api.OK
			}
			wantRotated(t, "a secret", f, k, 3, many(size, letter), 110, want)
		}
	}
	wantRotated(t, "24 runes", f, k, 3, many(24, "é"), 110, api.ErrArg)
}

// F4: ahead of Used, at it, behind it; and ahead of Minted, which may be later than Used.
func TestRotateTimes(t *testing.T) {
	f, k := begun(t)
	for _, x := range []struct {
		used, minted, now int
		want              api.Errno
	}{
		{100, 100, 99, api.ErrArg}, {100, 100, 100, api.OK}, {100, 100, 101, api.OK}, {100, 100, 0, api.ErrArg}, {100, 100, least, api.ErrArg},
		{120, 100, 119, api.ErrArg}, {120, 100, 120, api.OK}, {120, 100, 110, api.ErrArg}, {120, 0, 100, api.ErrArg},
		{100, 120, 119, api.ErrArg}, {100, 120, 120, api.OK}, {100, 120, 110, api.ErrArg}, {100, 120, 100, api.ErrArg}, {100, lastTime, 149, api.ErrArg},
		{100, 0, 100, api.OK}, {100, 0, 99, api.ErrArg},
	} {
		f.Used, k.Minted = x.used, x.minted
		wantRotated(t, "a time", f, k, 3, secret("n"), x.now, x.want)
	}
}

// F4: readings count as the nearest times.
func TestRotateNearest(t *testing.T) {
	b := usual()
	b.now = -5
	f, k, _ := b.begin()
	for _, now := range []int{least, -1, 0} {
		wantRotated(t, "below 0", f, k, 3, secret("n"), now, api.OK)
		if g, spent, fresh, _ := family.Rotate(f, k, 3, secret("n"), now); g.Used != 0 || spent.At != 0 || fresh.Minted != 0 {
			t.Errorf("at %d: %#v, %#v, %#v", now, g, spent, fresh)
		}
	}
	b.now, b.client.Idle, b.client.Absolute = lastTime-1, lastTime, lastTime
	f, k, _ = b.begin()
	wantRotated(t, "one ahead of the last", f, k, 3, secret("n"), lastTime-1, api.OK)
	wantRotated(t, "the last", f, k, 3, secret("n"), lastTime, api.ErrArg)
	wantRotated(t, "behind the last", f, k, 3, secret("n"), most, api.ErrArg)
}

// F4: the generations' end; ErrTableWorn stands behind all that is ErrArg.
func TestRotateWorn(t *testing.T) {
	f, k := begun(t)
	f.Gen, k.Gen = lastGen-1, lastGen-1
	wantRotated(t, "the last but one", f, k, 3, secret("n"), 110, api.OK)
	f, _, k, _ = family.Rotate(f, k, 3, secret("n"), 110)
	if f.Gen != lastGen || k.Gen != lastGen {
		t.Fatalf("%#v, %#v", f, k)
	}
	wantRotated(t, "the last", f, k, 4, secret("n"), 111, api.ErrTableWorn)
	wantRotated(t, "the last, and its end", f, k, 4, secret("n"), 160, api.ErrArg)
	wantRotated(t, "the last, and no ID", f, k, 0, secret("n"), 111, api.ErrArg)
	wantRotated(t, "the last, and too great an ID", f, k, lastID+1, secret("n"), 111, api.ErrArg)
	wantRotated(t, "the last, and no secret", f, k, 4, "", 111, api.ErrArg)
	wantRotated(t, "the last, and ahead of Used", f, k, 4, secret("n"), 109, api.ErrArg)
	k.Minted = 130
	wantRotated(t, "the last, and ahead of Minted", f, k, 4, secret("n"), 129, api.ErrArg)
	wantRotated(t, "the last, at Minted", f, k, 4, secret("n"), 130, api.ErrTableWorn)
	wantTell(t, f, k, 130)
	f.Gen, k.Gen = lastGen+1, lastGen+1
	wantRotated(t, "behind the last", f, k, 4, secret("n"), 130, api.ErrArg)
}

// F4: several things at once, each of what may be wrong with each other one.
func TestRotateSeveral(t *testing.T) {
	f, spent, fresh := rotated(t)
	worn := f
	worn.Gen = lastGen
	wornToken := fresh
	wornToken.Gen = lastGen
	for _, g := range []api.Family{f, worn, {}} {
		for _, k := range []api.Token{fresh, wornToken, spent, {}} {
			for _, next := range []int{-1, 0, 4, lastID, lastID + 1} {
				for _, size := range []int{0, 23, 24, 25} {
					for _, now := range []int{least, 109, 110, 111, 159, 160, most} {
						wantRotate(t, g, k, next, many(size, "s"), now)
					}
				}
			}
		}
	}
}

// F4: of what Begin made, long rows of rotations, with whatever is in the records.
func TestRotateDrawn(t *testing.T) {
	r := rand.New(rand.NewSource(4))
	turns := 0
	for range 600 {
		b := drawnBirth(r)
		f, k, _ := b.begin()
		now := f.Created
		for range 12 {
			now = min(max(now, time(now+upTo(r, 2*f.Idle))), lastTime)
			next, secret := 1+upTo(r, lastID-1), someBytes(r, 24)
			if wantRotate(t, f, k, next, secret, now) != api.OK {
				break
			}
			f, _, k, _ = family.Rotate(f, k, next, secret, now)
			turns++
		}
	}
	if turns < 1000 {
		t.Errorf("the test is wrong: %d rotations", turns)
	}
}
