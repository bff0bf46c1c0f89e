package trail_test

import (
	"fmt"
	"math/rand"
	"testing"

	"latchkey/api"
	"latchkey/hash"
	"latchkey/record"
	"latchkey/trail"
)

// wantLink is that Link answers what the document says of it.
func wantLink(t *testing.T, digest string, e api.Event) {
	t.Helper()
	s, errno := trail.Link(digest, e)
	if len(digest) != 32 || !eventOK(e) {
		if s != "" || errno != api.ErrTrailField {
			t.Fatalf("Link(%d bytes, %v): %x, %d", len(digest), e, s, errno)
		}
		return
	}
	pair, _ := record.PrintEvent(e)
	if want := hash.Sum(digest + pair.Value + pair.Key); s != want || s != shaLink(digest, e) || errno != api.OK {
		t.Fatalf("Link(%x, %v): %x, %d; want %x", digest, e, s, errno, want)
	}
}

// T1: a digest has 32 bytes.
func TestLinkHash(t *testing.T) {
	for _, size := range []int{0, 1, 16, 31, 32, 33, 64, 1000, 1 << 20} {
		for _, b := range []string{"\x00", "a", "\xff"} {
			wantLink(t, many(size, b), some(3))
		}
	}
	for seed := range 50 {
		wantLink(t, digest(seed), some(seed+1))
	}
}

// edges are numbers about the bounds of a field, the least and the greatest ones too.
func edges() []int {
	return []int{least, least + 1, -1 << 62, -1 << 40, -256, -2, -1, 0, 1, 2, 8, 9, 10, 11, 255, 256, 257, 1 << 32, lastTime - 1, lastTime, lastTime + 1, 1 << 48, lastID - 1, lastID, lastID + 1, lastID + 2, most - 1, most}
}

// fieldsChanged are an event's fields, each at its edges and beyond.
func fieldsChanged(e api.Event) []api.Event {
	var l []api.Event
	for _, n := range edges() {
		number, time, kind, family := e, e, e, e
		number.Number, time.Time, kind.Kind, family.Family = n, n, n, n
		l = append(l, number, time, kind, family)
	}
	for _, s := range append(rightNames(), wrongNames()...) {
		who := e
		who.Who = s
		l = append(l, who)
	}
	return l
}

// T1: the event may be, or not.
func TestLinkEvent(t *testing.T) {
	right, wrong := 0, 0
	for _, e := range fieldsChanged(some(7)) {
		for _, h := range []string{noughts, digest(1), "", many(31, "a")} {
			wantLink(t, h, e)
		}
		if eventOK(e) {
			right++
		} else {
			wrong++
		}
	}
	if right < 40 || wrong < 100 {
		t.Fatalf("the test is wrong: %d, %d", right, wrong)
	}
	wantLink(t, noughts, api.Event{})
	wantLink(t, noughts, api.Event{Number: 1, Kind: 1})
	wantLink(t, noughts, api.Event{Number: lastID, Time: lastTime, Kind: 9, Family: lastID, Who: many(16, "z")})
}

// T1: all that a digest is of counts.
func TestLinkTellsApart(t *testing.T) {
	seen := map[string]string{}
	note := func(h string, e api.Event) {
		t.Helper()
		s, errno := trail.Link(h, e)
		if errno != api.OK {
			return
		}
		what := fmt.Sprintf("%x %v", h, e)
		if other, there := seen[s]; there && other != what {
			t.Fatalf("%s and %s have one digest", what, other)
		}
		seen[s] = what
	}
	for _, e := range fieldsChanged(some(7)) {
		note(noughts, e)
	}
	for n := range 32 {
		for bit := range 8 {
			h := []byte(digest(2))
			h[n] ^= 1 << bit
			note(string(h), some(7))
		}
	}
	if len(seen) < 256+40 {
		t.Fatalf("the test is wrong: %d", len(seen))
	}
}

// T1: what is drawn.
func TestLinkDrawn(t *testing.T) {
	r := rand.New(rand.NewSource(16))
	for range 3000 {
		e := drawnEvent(r, drawnOf(r, 1, 2, r.Intn(500), lastID))
		wantLink(t, digest(r.Intn(100)), e)
	}
}
