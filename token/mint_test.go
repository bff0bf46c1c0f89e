package token_test

import (
	"fmt"
	"math/rand"
	"testing"

	"latchkey/api"
	"latchkey/codec"
	"latchkey/hash"
	"latchkey/token"
)

// K1: every kind with every ID, and secrets of 24 bytes and of others.
func TestMint(t *testing.T) {
	for _, kind := range someKinds() {
		for _, id := range someIDs() {
			for _, secret := range someSecrets() {
				wantMint(t, kind, id, secret)
			}
			for _, secret := range wrongSecrets() {
				wantMint(t, kind, id, secret)
			}
		}
	}
}

// K1: the edges, one by one.
func TestMintEdges(t *testing.T) {
	for _, k := range []struct {
		kind, id, size int
		want           api.Errno
	}{
		{1, 1, 24, api.OK}, {2, 1, 24, api.OK},
		{-1, 1, 24, api.ErrArg}, {0, 1, 24, api.ErrArg}, {3, 1, 24, api.ErrArg}, {least, 1, 24, api.ErrArg}, {most, 1, 24, api.ErrArg},
		{1, -1, 24, api.ErrArg}, {1, 0, 24, api.ErrArg}, {1, least, 24, api.ErrArg}, {1, most, 24, api.ErrArg},
		{1, 1 << 62, 24, api.OK}, {1, 1<<62 + 1, 24, api.ErrArg}, {2, 1 << 62, 24, api.OK}, {2, 1<<62 + 1, 24, api.ErrArg},
		{1, 1, 0, api.ErrArg}, {1, 1, 23, api.ErrArg}, {1, 1, 25, api.ErrArg}, {2, 1, 0, api.ErrArg}, {2, 1, 23, api.ErrArg}, {2, 1, 25, api.ErrArg},
		{0, 0, 0, api.ErrArg}, {least, least, 23, api.ErrArg}, {most, most, 25, api.ErrArg},
	} {
		for _, b := range []string{"s", "\x00", "\xff"} {
			s, errno := token.Mint(k.kind, k.id, many(k.size, b))
			if errno != k.want || (s == "") != (errno != api.OK) {
				t.Errorf("Mint(%d, %d, %d bytes): %q, %d; want %d", k.kind, k.id, k.size, s, errno, k.want)
			}
		}
	}
}

// K1: no size of a secret but 24 will do.
func TestMintSizes(t *testing.T) {
	for size := range 200 {
		for kind := 1; kind <= 2; kind++ {
			_, errno := token.Mint(kind, 7, many(size, "s"))
			if (errno == api.OK) != (size == 24) {
				t.Errorf("Mint(%d, 7, %d bytes): %d", kind, size, errno)
			}
		}
	}
}

// K1: the text, as the layers 1 and 2 tell its parts.
func TestMintByItsLayers(t *testing.T) {
	r := rand.New(rand.NewSource(1))
	for n := range 2000 {
		kind, id, secret := 1+n%2, drawnID(r), drawn(r, 24)
		w := codec.NewWriter()
		w.Num(8, id)
		w.Raw(secret)
		bytes, _ := w.Done()
		w.Num(4, int(hash.CRC(prefix(kind)+bytes)))
		all, _ := w.Done()
		s := mint(t, kind, id, secret)
		if s != prefix(kind)+codec.Base64(all) || len(s) != 52 || len(all) != 36 {
			t.Fatalf("Mint(%d, %d, %q): %q", kind, id, secret, s)
		}
	}
}

// K1: what is drawn.
func TestMintDrawn(t *testing.T) {
	r := rand.New(rand.NewSource(2))
	for range 5000 {
		wantMint(t, r.Intn(4), drawnID(r)-r.Intn(2), drawn(r, 23+r.Intn(3)))
		wantMint(t, 1+r.Intn(2), int(r.Uint64()), drawn(r, 24))
		wantMint(t, int(r.Uint64()), 7, drawn(r, 24))
	}
}

// K1: unlike kinds, IDs and secrets have unlike texts.
func TestMintTellsApart(t *testing.T) {
	seen := map[string]string{}
	for kind := 1; kind <= 2; kind++ {
		for _, id := range rightIDs() {
			for _, secret := range someSecrets() {
				s, what := mint(t, kind, id, secret), fmt.Sprintf("%d %d %x", kind, id, secret)
				if other, there := seen[s]; there {
					t.Fatalf("%s and %s have one text", what, other)
				}
				seen[s] = what
			}
		}
	}
	if len(seen) < 1000 {
		t.Fatalf("the test is wrong: %d", len(seen))
	}
}

// K1: a text has its prefix and signs alone.
func TestMintSigns(t *testing.T) {
	r := rand.New(rand.NewSource(3))
	for n := range 2000 {
		s := mint(t, 1+n%2, drawnID(r), drawn(r, 24))
		if s[:4] != prefix(1+n%2) {
			t.Fatalf("%q", s)
		}
		for at := 4; at < len(s); at++ {
			if !isSign(s[at]) {
				t.Fatalf("%q: place %d", s, at)
			}
		}
	}
}
