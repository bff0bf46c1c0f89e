package access_test

import (
	"fmt"
	"testing"

	"latchkey/access"
	"latchkey/api"
)

// turn is something that is changed in a key or in claims, and whether these may be so.
type turn[T any] struct {
	what   string
	change func(*T)
	mayBe  bool
}

// keyTurns are keys with one field at its edges.
func keyTurns() []turn[api.Key] {
	var l []turn[api.Key]
	add := func(what string, mayBe bool, change func(k *api.Key)) {
		l = append(l, turn[api.Key]{what, change, mayBe})
	}
	for _, n := range []int{least, -lastKey, -1, 0, lastKey + 1, lastTime, lastID, most} {
		add(fmt.Sprint("Number ", n), false, func(k *api.Key) { k.Number = n })
	}
	for _, n := range []int{1, 2, 9, 10, 1e9, lastKey - 1, lastKey} {
		add(fmt.Sprint("Number ", n), true, func(k *api.Key) { k.Number = n })
	}
	for _, n := range []int{0, 1, 12, 23, 25, 32, 48, 64, 65, 1000} {
		add(fmt.Sprint("a Secret of ", n), false, func(k *api.Key) { k.Secret = many(n, "s") })
	}
	for _, s := range []string{many(24, "\x00"), many(24, "\xff"), many(12, "é"), secret(7)} {
		add(fmt.Sprintf("Secret %q", s), true, func(k *api.Key) { k.Secret = s })
	}
	for _, c := range []struct {
		from, until int
		mayBe       bool
	}{
		{0, 0, true}, {0, lastTime, true}, {lastTime, lastTime, true}, {7, 7, true}, {7, 8, true}, {lastTime - 1, lastTime, true}, {1000, 2000, true},
		{8, 7, false}, {1, 0, false}, {lastTime, 0, false}, {lastTime, lastTime - 1, false}, {-1, 0, false}, {-1, -1, false}, {least, 50, false}, {least, most, false},
		{0, lastTime + 1, false}, {lastTime + 1, lastTime + 1, false}, {0, most, false}, {most, most, false}, {least, least, false}, {0, -1, false}, {most, least, false},
	} {
		add(fmt.Sprintf("From %d, Until %d", c.from, c.until), c.mayBe, func(k *api.Key) { k.From, k.Until = c.from, c.until })
	}
	return l
}

// claimTurns are claims with one field at its edges.
func claimTurns() []turn[api.Claims] {
	var l []turn[api.Claims]
	add := func(what string, mayBe bool, change func(c *api.Claims)) {
		l = append(l, turn[api.Claims]{what, change, mayBe})
	}
	field := func(what string, mayBe bool, place func(c *api.Claims) *int, numbers ...int) {
		for _, n := range numbers {
			add(fmt.Sprint(what, " ", n), mayBe, func(c *api.Claims) { *place(c) = n })
		}
	}
	name := func(what string, mayBe bool, place func(c *api.Claims) *string, texts ...string) {
		for _, s := range texts {
			add(fmt.Sprintf("%s %.40q", what, s), mayBe, func(c *api.Claims) { *place(c) = s })
		}
	}
	client, subject := func(c *api.Claims) *string { return &c.Client }, func(c *api.Claims) *string { return &c.Subject }
	name("Client", true, client, rightNames()...)
	name("Client", false, client, wrongNames()...)
	name("Subject", true, subject, rightNames()...)
	name("Subject", false, subject, wrongNames()...)
	for _, l := range rightScopes() {
		add(fmt.Sprintf("Scope %q", l), true, func(c *api.Claims) { c.Scope = l })
	}
	for _, l := range wrongScopes() {
		add(fmt.Sprintf("Scope %q", l), false, func(c *api.Claims) { c.Scope = l })
	}
	for _, place := range []func(c *api.Claims) *int{func(c *api.Claims) *int { return &c.Family }, func(c *api.Claims) *int { return &c.Number }} {
		field("Family, or Number", true, place, 1, 2, 9, 10, lastTime, lastNumber-1, lastNumber)
		field("Family, or Number", false, place, least, least+1, -lastNumber, -1, 0, lastNumber+1, lastNumber+2, lastID, most-1, most)
	}
	issued, end := func(c *api.Claims) *int { return &c.Issued }, func(c *api.Claims) *int { return &c.End }
	field("Issued", true, issued, 0, 1, 19, 39, 40)
	field("Issued", false, issued, least, -1, 41, lastTime, lastTime+1, most)
	field("End", true, end, 20, 21, lastTime-1, lastTime)
	field("End", false, end, least, -1, 0, 19, lastTime+1, lastNumber, lastNumber+1, most)
	for _, n := range []int{0, lastTime} {
		add(fmt.Sprint("Issued and End ", n), true, func(c *api.Claims) { c.Issued, c.End = n, n })
	}
	for _, n := range []int{least, -1, lastTime + 1, most} {
		add(fmt.Sprint("Issued and End ", n), false, func(c *api.Claims) { c.Issued, c.End = n, n })
	}
	add("Issued and End the wrong way round", false, func(c *api.Claims) { c.Issued, c.End = lastTime, 0 })
	return l
}

// A1: each field of a key at its edges. That a key does not sign at the time, or never, is not asked.
func TestSignKeys(t *testing.T) {
	for _, turned := range keyTurns() {
		k := three()
		if turned.change(&k); isKeyOK(k) != turned.mayBe {
			t.Fatalf("the test is wrong: %s", turned.what)
		}
		if turned.mayBe {
			wantSign(t, k, "home", claims())
		} else {
			wantNoSign(t, k, "home", claims(), api.ErrArg)
		}
	}
	wantNoSign(t, api.Key{}, "home", claims(), api.ErrArg)
}

// A1: issuers.
func TestSignIssuers(t *testing.T) {
	for _, issuer := range rightNames() {
		wantSign(t, three(), issuer, claims())
	}
	for _, issuer := range wrongNames() {
		wantNoSign(t, three(), issuer, claims(), api.ErrArg)
	}
}

// A1: each field of claims at its edges.
func TestSignClaims(t *testing.T) {
	for _, turned := range claimTurns() {
		c := claims()
		if turned.change(&c); isClaimsOK(c) != turned.mayBe {
			t.Fatalf("the test is wrong: %s", turned.what)
		}
		if turned.mayBe {
			wantSign(t, three(), "home", c)
		} else {
			wantNoSign(t, three(), "home", c, api.ErrAccessClaim)
		}
	}
	wantNoSign(t, three(), "home", api.Claims{}, api.ErrAccessClaim)
}

// A1: a key, or an issuer, that may not be is told ahead of claims that may not be; all together.
func TestSignInOrder(t *testing.T) {
	keys, claimed := keyTurns(), claimTurns()
	for n, turned := range keys {
		k := three()
		turned.change(&k)
		for m := range 40 {
			with := claimed[(41*n+m)%len(claimed)]
			c := claims()
			with.change(&c)
			for _, issuer := range []string{"home", "", "Home"} {
				switch {
				case !turned.mayBe || issuer != "home":
					wantNoSign(t, k, issuer, c, api.ErrArg)
				case !with.mayBe:
					wantNoSign(t, k, issuer, c, api.ErrAccessClaim)
				default:
					wantSign(t, k, issuer, c)
				}
			}
		}
	}
}

// A1: all together, two by two.
func TestSignTwoByTwo(t *testing.T) {
	l := claimTurns()
	for n, one := range l {
		for m := n % 7; m < len(l); m += 7 {
			c := claims()
			one.change(&c)
			l[m].change(&c)
			if isClaimsOK(c) {
				wantSign(t, three(), "home", c)
			} else {
				wantNoSign(t, three(), "home", c, api.ErrAccessClaim)
			}
		}
	}
}

// A1: the greatest token of all.
func TestSignGreatest(t *testing.T) {
	k := api.Key{Number: lastKey, Secret: many(24, "\xff"), From: lastTime, Until: lastTime}
	c := api.Claims{Client: many(16, "c"), Subject: many(16, "s"), Scope: eight(), Family: lastNumber, Number: lastNumber, Issued: lastTime, End: lastTime}
	s := wantSign(t, k, many(16, "i"), c)
	if len(s) > 600 {
		t.Fatalf("it has %d bytes", len(s))
	}
	wantErrno(t, "Verify", wantVerify(t, []api.Key{k}, many(16, "i"), s, lastTime), api.ErrAccessKey) // nothing is ahead of the last time
}

// A1: what is signed hangs on nothing else: neither on a key's times, nor on what was signed ahead.
func TestSignAgain(t *testing.T) {
	k := three()
	k.From, k.Until = 0, lastTime
	for range 3 {
		for _, key := range []api.Key{three(), k} {
			if s, errno := access.Sign(key, "home", claims()); s != example || errno != api.OK {
				t.Fatalf("%q, %d", s, errno)
			}
		}
		wantNoSign(t, three(), "home", api.Claims{}, api.ErrAccessClaim)
	}
}
