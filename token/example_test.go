package token_test

import (
	"testing"

	"latchkey/api"
	"latchkey/token"
)

// Example 1.
func TestExampleMintedAndParsed(t *testing.T) {
	secret := many(24, "s")
	for kind, want := range map[int]string{1: refresh, 2: grant} {
		if s, errno := token.Mint(kind, 7, secret); s != want || errno != api.OK {
			t.Errorf("Mint(%d, 7, ..): %q, %d; want %q", kind, s, errno, want)
		}
		wantParsed(t, kind, want, 7, secret, api.OK)
		wantParsed(t, 3-kind, want, 0, "", api.ErrTokenKind)
	}
}

// Example 2.
func TestExampleRefused(t *testing.T) {
	for _, k := range []struct {
		kind, id, size int
	}{{3, 7, 24}, {1, 0, 24}, {1, 7, 23}} {
		if s, errno := token.Mint(k.kind, k.id, many(k.size, "s")); s != "" || errno != api.ErrArg {
			t.Errorf("Mint(%d, %d, %d letters): %q, %d", k.kind, k.id, k.size, s, errno)
		}
	}
	wantParsed(t, 1, "", 0, "", api.ErrTokenForm)
	wantParsed(t, 1, refresh[:51], 0, "", api.ErrTokenForm)
	wantParsed(t, 1, refresh[:51]+"w", 0, "", api.ErrTokenCheck)
}
