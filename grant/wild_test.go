package grant_test

import (
	"fmt"
	"testing"

	"latchkey/api"
	"latchkey/grant"
	"latchkey/table"
)

// wildText is the text of the token 6, as the tables of this file have it.
func wildText() string { return textOf("lkr_", 6, secret(1)) }

func wildFamily() api.Family {
	return api.Family{ID: 5, Client: "app", Subject: "ann", Scope: names("read"), Created: 100, Used: 100, Idle: 50, Absolute: 120, Grace: 10, Gen: 1, Token: 6, State: api.Active}
}

func wildToken() api.Token {
	return api.Token{ID: 6, Family: 5, Gen: 1, Hash: digestOf(wildText()), Minted: 100}
}

// wild is a table on which these stand, whether they belong together or not.
func wild(t *testing.T, next int, families []api.Family, tokens []api.Token, more ...func(x *table.Table) api.Errno) *both {
	t.Helper()
	b := founded(t, 128, next, 0, three()...)
	b.x.See(100)
	for _, f := range families {
		wantErrno(t, "PutFamily", b.x.PutFamily(f), api.OK)
	}
	for _, k := range tokens {
		wantErrno(t, "PutToken", b.x.PutToken(k), api.OK)
	}
	for _, do := range more {
		wantErrno(t, "more", do(b.x), api.OK)
	}
	wantErrno(t, "Commit", b.x.Commit(), api.OK)
	return b
}

// G4: where there is no verdict, nothing is changed: a token that is neither spent nor the current one.
func TestNoVerdict(t *testing.T) {
	another := func(change func(k *api.Token)) []api.Token {
		k := wildToken()
		change(&k)
		return []api.Token{k}
	}
	other := wildFamily()
	other.Token = 7
	later := wildFamily()
	later.Gen = 3
	for n, b := range []*both{
		wild(t, 100, []api.Family{other}, []api.Token{wildToken()}),
		wild(t, 100, []api.Family{later}, []api.Token{wildToken()}),
		wild(t, 100, []api.Family{wildFamily()}, another(func(k *api.Token) { k.Gen = 2 })),
	} {
		for range 2 {
			b.wantRefused(rotate("app", wildText(), nil, 110, secret(2)), api.ErrGrantToken)
			b.wantRefused(introspect(wildText(), 110), api.OK)
		}
		if f, errno := b.x.Family(5); errno != api.OK || f.State != api.Active {
			t.Fatalf("%d: %#v, %d", n, f, errno)
		}
	}
}

// R1: of records that do not belong together each call ends, and none panics.
func TestWildTables(t *testing.T) {
	ahead, worn, spent := wildFamily(), wildFamily(), wildToken()
	ahead.Created, ahead.Used = 5000, 5000
	worn.Gen = lastGen
	spent.Spent, spent.At, spent.Next, spent.Secret = true, 4000, lastID, secret(9)
	last := wildToken()
	last.Gen = lastGen
	lone := wildToken()
	lone.Family = 77
	chain := func(base, next int) func(x *table.Table) api.Errno {
		return func(x *table.Table) api.Errno {
			return x.PutChain(api.Chain{Base: base, Next: next, BaseHash: digestOf("a"), NextHash: digestOf("b")})
		}
	}
	stray := func(x *table.Table) api.Errno { return x.PutEvent(api.Event{Number: 50, Kind: api.EventKey}) }
	tables := []*both{
		wild(t, 100, nil, []api.Token{wildToken()}), wild(t, 100, nil, []api.Token{lone}), wild(t, 100, []api.Family{wildFamily()}, nil), wild(t, 5, []api.Family{wildFamily()}, []api.Token{wildToken()}),
		wild(t, 6, []api.Family{wildFamily()}, []api.Token{wildToken()}), wild(t, 100, []api.Family{ahead}, []api.Token{wildToken()}), wild(t, 100, []api.Family{wildFamily()}, []api.Token{spent}),
		wild(t, 100, []api.Family{worn}, []api.Token{last}), wild(t, 100, []api.Family{worn}, []api.Token{wildToken()}), wild(t, 100, []api.Family{wildFamily()}, []api.Token{wildToken()}, chain(3, 36)),
		wild(t, 100, []api.Family{wildFamily()}, []api.Token{wildToken()}, chain(0, 33), stray), wild(t, 100, []api.Family{wildFamily()}, []api.Token{wildToken()}, chain(lastID-1, lastID+1), stray),
		wild(t, 4, []api.Family{wildFamily()}, []api.Token{wildToken()}),
	}
	for n, b := range tables {
		for _, now := range []int{least, 110, 120, 150, 4005, 4020, 6000, most} {
			for _, text := range []string{wildText(), textOf("lkr_", lastID, secret(9)), textOf("lkr_", 7, secret(1))} {
				for _, c := range []call{
					introspect(text, now), rotate("app", text, nil, now, secret(2)), rotate("app", text, names("admin"), now, secret(2)), revoke("app", text, now),
					issue("app", "ann", nil, now, secret(3)), revokeAll("ann", now),
				} {
					if a := c.do(b.x); a.errno != api.OK && !a.same(answer{errno: a.errno}) {
						t.Fatalf("%d: %s: %#v", n, c.what, a)
					}
				}
				if a, errno := grant.Begin(b.x, "app", "ann", nil, lastID, secret(4)); errno != api.OK && !same(a, api.Issued{}) {
					t.Fatalf("%d: Begin: %#v, %d", n, a, errno)
				}
			}
		}
	}
}

// R1: all numbers, texts and lists, together.
func TestWildArguments(t *testing.T) {
	b, first, second := turned(t)
	texts := append(wrongNames(), "app", "gone", "off", first, second, secret(1), many(100000, "\xff"))
	numbers := []int{least, least + 1, -lastID, -1, 0, 1, 110, 119, lastTime, lastID, lastID + 1, most}
	for n, text := range texts {
		for m, other := range texts {
			now := numbers[(n+m)%len(numbers)]
			scope := append(wrongScopes(), rightScopes()...)[(n+2*m)%16]
			for _, c := range []call{issue(text, other, scope, now, other), rotate(text, other, scope, now, other), revoke(text, other, now), introspect(text, now), revokeAll(other, now), rotate("app", text, scope, now, secret(m))} {
				b.quick(c)
			}
			if code := numbers[m%len(numbers)]; code < 0 || code > lastID {
				_, errno := grant.Begin(b.x, "app", "ann", nil, code, secret(1))
				wantErrno(t, fmt.Sprint("Begin of the code ", code), errno, api.ErrArg)
			}
		}
	}
	b.look("behind all")
}
