package family_test

import (
	"math/rand"
	"testing"

	"latchkey/api"
	"latchkey/token"
)

// wantBegun is that Begin takes it, and that the document says so.
func wantBegun(t *testing.T, b birth) {
	t.Helper()
	if errno := wantBegin(t, b); errno != api.OK {
		t.Fatalf("%#v: %d", b, errno)
	}
}

// wantNotBegun is that Begin refuses it, and that the document says so.
func wantNotBegun(t *testing.T, what string, b birth) {
	t.Helper()
	if errno := wantBegin(t, b); errno != api.ErrArg {
		t.Fatalf("%s: %#v: %d", what, b, errno)
	}
}

// F1: each field of both.
func TestBeginFields(t *testing.T) {
	f, k := begun(t)
	wantF := api.Family{ID: 1, Client: "app", Subject: "ann", Scope: []string{"read"}, Created: 100, Used: 100, Idle: 50, Absolute: 120, Grace: 10, Gen: 1, Token: 2, State: api.Active}
	text, errno := token.Mint(api.Refresh, 2, secret("s"))
	wantK := api.Token{ID: 2, Family: 1, Gen: 1, Hash: token.Hash(text), Minted: 100}
	if !same(f, wantF) || k != wantK || errno != api.OK {
		t.Errorf("%#v, %#v", f, k)
	}
	if textOf(2, secret("s")) != text || hashOf(2, secret("s")) != token.Hash(text) {
		t.Fatalf("the test is wrong: %q", textOf(2, secret("s")))
	}
}

// F1: the IDs, at their edges; both may be the same.
func TestBeginIDs(t *testing.T) {
	for _, id := range somePlaces() {
		for _, first := range somePlaces() {
			b := usual()
			b.id, b.first = id, first
			if isID(id) && isID(first) {
				wantBegun(t, b)
			} else {
				wantNotBegun(t, "an ID", b)
			}
		}
	}
	for _, k := range []struct {
		id   int
		want api.Errno
	}{{-1, api.ErrArg}, {0, api.ErrArg}, {1, api.OK}, {1 << 62, api.OK}, {1<<62 + 1, api.ErrArg}} {
		a, b := usual(), usual()
		a.id, b.first = k.id, k.id
		if one, two := wantBegin(t, a), wantBegin(t, b); one != k.want || two != k.want {
			t.Errorf("%d: %d as a family's, %d as a token's", k.id, one, two)
		}
	}
}

// F1: clients of all kinds, those that are Off too, whose numbers the family takes over; and such as may not be.
func TestBeginClients(t *testing.T) {
	for _, c := range someClients() {
		for _, off := range []bool{false, true} {
			b := usual()
			b.client, b.client.Off = c, off
			wantBegun(t, b)
		}
	}
	wrong := wrongClients()
	if len(wrong) < 100 {
		t.Fatalf("the test is wrong: %d clients", len(wrong))
	}
	for _, c := range wrong {
		b := usual()
		b.client = c
		wantNotBegun(t, "a client", b)
	}
}

// F1: Life is asked, though no family has one; so is the client's scope, which is not the family's.
func TestBeginAsksTheWholeClient(t *testing.T) {
	b := usual()
	b.client.Life = 0
	wantNotBegun(t, "Life 0", b)
	b = usual()
	b.client.Scope = []string{"b", "a"}
	wantNotBegun(t, "its scope", b)
	b = usual()
	b.client.Scope, b.scope = nil, []string{"admin"}
	wantBegun(t, b)
	b.scope, b.client.Scope = nil, []string{"read"}
	wantBegun(t, b)
}

// F1: subjects that are names, and others.
func TestBeginSubjects(t *testing.T) {
	b := usual()
	for _, b.subject = range rightNames() {
		wantBegun(t, b)
	}
	for _, b.subject = range wrongNames() {
		wantNotBegun(t, "a subject", b)
	}
}

// F1: scopes, and lists that are none.
func TestBeginScopes(t *testing.T) {
	b := usual()
	for _, b.scope = range rightScopes() {
		wantBegun(t, b)
	}
	for _, b.scope = range wrongScopes() {
		wantNotBegun(t, "a scope", b)
	}
}

// F1: secrets of each size, of any bytes.
func TestBeginSecrets(t *testing.T) {
	b := usual()
	for size := range 60 {
		for _, letter := range []string{"s", "\x00", "\xff"} {
			if b.secret = many(size, letter); size == 24 {
				wantBegun(t, b)
			} else {
				wantNotBegun(t, "a secret", b)
			}
		}
	}
	b.secret = many(24, "é")
	wantNotBegun(t, "24 runes", b)
	b.secret = many(256+24, "s")
	wantNotBegun(t, "256 too many", b)
}

// F1: the nearest times.
func TestBeginTimes(t *testing.T) {
	for _, k := range []struct{ now, want int }{
		{least, 0}, {-1, 0}, {0, 0}, {1, 1}, {100, 100}, {lastTime - 1, lastTime - 1}, {lastTime, lastTime}, {lastTime + 1, lastTime}, {most, lastTime},
	} {
		b := usual()
		b.now = k.now
		wantBegun(t, b)
		f, one, _ := b.begin()
		if f.Created != k.want || f.Used != k.want || one.Minted != k.want {
			t.Errorf("at %d: %#v, %#v", k.now, f, one)
		}
	}
}

// F1: several things wrong at once, and drawn ones that may be.
func TestBeginDrawn(t *testing.T) {
	r := rand.New(rand.NewSource(1))
	taken := 0
	for range 4000 {
		b := drawnBirth(r)
		wantBegun(t, b)
		for range r.Intn(4) {
			switch r.Intn(6) {
			case 0:
				b.id = pick(r, somePlaces()...)
			case 1:
				b.first = pick(r, somePlaces()...)
			case 2:
				b.client = spoilt(r, b.client, 1)
			case 3:
				b.subject = pick(r, someTexts()...)
			case 4:
				b.scope = pick(r, append(rightScopes(), wrongScopes()...)...)
			case 5:
				b.secret = pick(r, someTexts()...)
			}
		}
		if wantBegin(t, b) == api.OK {
			taken++
		}
	}
	if taken < 500 || taken > 3500 {
		t.Errorf("the test is wrong: %d of 4000 are taken", taken)
	}
}
