package token_test

import (
	"crypto/sha256"
	"math/rand"
	"testing"

	"latchkey/hash"
	"latchkey/token"
)

// wantHash is that Hash is layer 1's Sum, and SHA-256.
func wantHash(t *testing.T, s string) {
	t.Helper()
	sum := sha256.Sum256([]byte(s))
	if d := token.Hash(s); d != hash.Sum(s) || d != string(sum[:]) {
		t.Fatalf("Hash(%q): %x; want %x", s, d, sum)
	}
}

// K3: of the empty text, of minted ones, of any.
func TestHash(t *testing.T) {
	for _, s := range []string{"", "x", refresh, grant, refresh[:51], "lkr_", many(52, "\x00"), many(52, "\xff"), many(1<<20, "a"), "é日\x80"} {
		wantHash(t, s)
	}
	for size := range 200 {
		wantHash(t, many(size, "A"))
	}
	for b := range 256 {
		wantHash(t, string([]byte{byte(b)}))
	}
	r := rand.New(rand.NewSource(7))
	for n := range 1000 {
		wantHash(t, drawn(r, r.Intn(300)))
		wantHash(t, mint(t, 1+n%2, drawnID(r), drawn(r, 24)))
	}
}

// K3: it is of the whole text: each byte counts, and a prefix is not taken off.
func TestHashTellsApart(t *testing.T) {
	seen := map[string]string{}
	note := func(s string) {
		t.Helper()
		if other, there := seen[token.Hash(s)]; there && other != s {
			t.Fatalf("%q and %q have one digest", s, other)
		}
		seen[token.Hash(s)] = s
	}
	note("")
	note(grant)
	note(refresh[4:])
	note(grant[4:])
	for at := range 52 {
		note(refresh[:at])
		for b := range 256 {
			note(put(refresh, at, byte(b)))
		}
	}
	for size := range 20 {
		note(refresh + many(size, "\x00"))
	}
}
