package client_test

import (
	"testing"

	"latchkey/api"
	"latchkey/client"
	"latchkey/hash"
)

// wantCheck is that Check answers so; with OK that it is app, with these digests.
func wantCheck(t *testing.T, b *both, secret string, now int, want api.Errno, hashed, old string, until int) {
	t.Helper()
	c, errno := client.Check(b.x, "app", secret, now)
	wantErrno(t, "Check", errno, want)
	a := api.Client{}
	if want == api.OK {
		a = app()
		a.Hash, a.Old, a.Until = hashed, old, until
	}
	if !sameClient(c, a) {
		t.Fatalf("Check with %q at %d: %#v, want %#v", secret, now, c, a)
	}
}

// Example 1.
func TestExampleRegister(t *testing.T) {
	b := withApp(t)
	b.want(register(app(), p, 100), api.ErrClientThere)
	b = newBoth(t, 64)
	b.want(register(app(), p[:15], 100), api.ErrClientField)
	for _, change := range []func(c *api.Client){
		func(c *api.Client) { c.Name = "App" },
		func(c *api.Client) { c.Life = 0 },
		func(c *api.Client) { c.Until = 1 },
		func(c *api.Client) { c.Public = true },
	} {
		c := app()
		change(&c)
		b.want(register(c, p, 100), api.ErrClientField)
	}
	b.want(register(publicClient("app"), "", 100), api.OK)
}

// Example 2.
func TestExampleCheck(t *testing.T) {
	b := withApp(t)
	wantCheck(t, b, p, 100, api.OK, hash.Sum(p), "", 0)
	wantCheck(t, b, q, 100, api.ErrClientSecret, "", "", 0)
	b.want(ask("nobody", p, 100), api.ErrClientNone)
}

// Example 3.
func TestExampleRenew(t *testing.T) {
	b := withApp(t)
	b.want(renew("app", q, 30, 200), api.OK)
	wantCheck(t, b, p, 229, api.OK, hash.Sum(q), hash.Sum(p), 230)
	wantCheck(t, b, p, 230, api.ErrClientSecret, "", "", 0)
	wantCheck(t, b, q, 230, api.OK, hash.Sum(q), hash.Sum(p), 230)
	b.want(renew("app", r, 30, 240), api.OK)
	wantCheck(t, b, p, 269, api.ErrClientSecret, "", "", 0)
	wantCheck(t, b, q, 269, api.OK, hash.Sum(r), hash.Sum(q), 270)
	wantCheck(t, b, q, 270, api.ErrClientSecret, "", "", 0)
	b.want(renew("app", r[:15], 30, 270), api.ErrClientField)
}

// Example 4.
func TestExampleSwitch(t *testing.T) {
	b := withApp(t)
	b.want(renew("app", r, 30, 240), api.OK)
	b.want(turn("app", true, 250), api.OK)
	acts := b.d.Acts()
	b.want(turn("app", true, 250), api.OK)
	if b.d.Acts() != acts {
		t.Fatalf("%d acts", b.d.Acts()-acts)
	}
	wantCheck(t, b, r, 250, api.ErrClientOff, "", "", 0)
	b.want(turn("app", false, 251), api.OK)
	wantCheck(t, b, r, 251, api.OK, hash.Sum(r), hash.Sum(p), 270)
}
