package endpoint_test

import (
	"fmt"
	"testing"

	"latchkey/access"
	"latchkey/api"
	"latchkey/grant"
	"latchkey/sweep"
	"latchkey/table"
	"latchkey/trail"
)

// E4: a family is revoked by its client, by whichever of its tokens; whoever shows something else does not learn so.
func TestRevoke(t *testing.T) {
	for _, which := range []string{"the only one", "the current one", "a spent one", "long spent", "expired"} {
		b := stands(t, home(t), config())
		first := b.issue("app", "ann", nil, 100, 1).Token
		other := b.issue("app", "ann", nil, 100, 2)
		text, signed, now := first, "", 110
		if which != "the only one" {
			text, signed = b.gives(refreshing("app", first), 101, secret(3))
		}
		switch which {
		case "a spent one":
			text = first
		case "long spent":
			text, now = first, 140
		case "expired":
			now = 151
		}
		for _, m := range []api.Message{
			revoking("web", text), post("/revoke", "token", text, "client_id", "tv"), revoking("app", text+"x"), revoking("app", ""), revoking("app", textOf("lkr_", 2, secret(9))), revoking("app", textOf("lkc_", 2, secret(1))), revoking("app", signed), revoking("app", "x"), revoking("app", many(100000, "x")),
		} {
			b.same(done, m, now, "")
		}
		if b.stateOf(1) != api.Active {
			t.Fatalf("%s: it was revoked", which)
		}
		b.wants(done, by("app", post("/revoke", "token", text, "token_type_hint", "access_token", "scope", "A")), now, "")
		if b.stateOf(1) != api.Revoked || b.stateOf(other.Family) != api.Active {
			t.Fatalf("%s: the states are %d, %d", which, b.stateOf(1), b.stateOf(other.Family))
		}
		b.same(done, revoking("app", text), now, "") // again
		for _, s := range []string{first, text, signed} {
			b.same(worthless, asking("web", s), now, "")
		}
		b.same(badGrant, refreshing("app", text), now, secret(9))
		chain, events, errno := trail.Read(b.x)
		if last := events[len(events)-1]; errno != api.OK || last != (api.Event{Number: chain.Next - 1, Time: now, Kind: api.EventRevoke, Family: 1, Who: "app"}) {
			t.Fatalf("%s: %v, %d", which, last, errno)
		}
		b.look(which)
	}
}

// E4, E5: there must be a field token; it may be empty.
func TestNoField(t *testing.T) {
	b := stands(t, home(t), config())
	for path, want := range map[string]api.Answer{"/revoke": done, "/introspect": worthless} {
		for _, fields := range [][]string{{}, {"tokens", "x"}, {"Token", "x"}, {"TOKEN", "x"}, {"token ", "x"}, {"", "x"}, {"refresh_token", "x", "grant_type", "refresh_token"}, {"token_type_hint", "refresh_token"}} {
			b.same(badRequest, by("app", post(path, fields...)), 20, "")
			b.same(want, by("app", post(path, append(fields, "token", "")...)), 20, "")
		}
	}
}

// told is what is told of a token that is worth something.
func told(client string, end, family, issued int, scope, subject string) api.Answer {
	return said(200, fmt.Sprintf(`{"active":true,"client_id":"%s","exp":%d,"fam":%d,"iat":%d,"scope":"%s","sub":"%s"}`, client, end, family, issued, scope, subject))
}

// E5: what a refresh token is worth, whoever asks.
func TestIntrospectRefresh(t *testing.T) {
	b := stands(t, home(t), config())
	first := b.issue("app", "ann", names("read"), 100, 1).Token
	for _, m := range []api.Message{asking("app", first), asking("web", first), post("/introspect", "token", first, "client_id", "tv"), by("web", post("/introspect", "a", "b", "token", first, "scope", "A"))} {
		b.same(told("app", 150, 1, 100, "read", "ann"), m, 149, "")
	}
	b.same(worthless, asking("app", first), 150, "")
	b = stands(t, home(t), config())
	first = b.issue("app", "ann", nil, 100, 1).Token
	next, _ := b.gives(refreshing("app", first), 130, secret(2))
	b.same(worthless, asking("app", first), 130, "")
	b.same(told("app", 180, 1, 130, "read write", "ann"), asking("app", next), 130, "")
	last, _ := b.gives(refreshing("app", next), 179, secret(3))
	b.same(told("app", 220, 1, 179, "read write", "ann"), asking("app", last), 219, "")
	b.same(worthless, asking("app", last), 220, "")
	for _, s := range []string{"", "x", last + "x", last[1:], textOf("lkr_", 4, secret(9)), textOf("lkr_", 99, secret(3)), textOf("lkc_", 4, secret(3)), many(100000, "x")} {
		b.same(worthless, asking("app", s), 220, "")
	}
}

// E5: what an access token is worth: as long as its family is alive, and it is ahead of its end.
func TestIntrospectAccess(t *testing.T) {
	b := stands(t, home(t), config())
	first := b.issue("app", "ann", nil, 100, 1).Token
	_, signed := b.gives(refreshing("app", first, "scope", "write"), 110, secret(2))
	for _, name := range []string{"app", "web"} {
		b.same(told("app", 130, 1, 110, "write", "ann"), asking(name, signed), 110, "")
		b.same(told("app", 130, 1, 110, "write", "ann"), asking(name, signed), 129, "")
	}
	for _, s := range []string{signed + ".", signed[1:], signed[:len(signed)-1], signed + "A", "." + signed} {
		b.same(worthless, asking("app", s), 129, "")
	}
	claims, number, errno := access.Read("home", signed)
	wantErrno(t, "Read", errno, api.OK)
	if number != 1 {
		t.Fatalf("the key %d", number)
	}
	for _, k := range []api.Key{{Number: 1, Secret: secret(901)}, {Number: 2, Secret: secret(900)}} {
		b.same(worthless, asking("app", tokenOf(k, "home", claims)), 129, "")
	}
	b.same(worthless, asking("app", tokenOf(api.Key{Number: 1, Secret: secret(900)}, "work", claims)), 129, "")
	b.same(told("app", 130, 1, 110, "write", "ann"), asking("app", tokenOf(api.Key{Number: 1, Secret: secret(900)}, "home", claims)), 129, "")
	claims.Family = 7 // there is none
	b.same(worthless, asking("app", tokenOf(api.Key{Number: 1, Secret: secret(900)}, "home", claims)), 129, "")
	b.same(worthless, asking("app", signed), 130, "")
	b = stands(t, home(t), config())
	first = b.issue("app", "ann", nil, 100, 1).Token
	_, signed = b.gives(refreshing("app", first), 110, secret(2))
	b.same(told("app", 130, 1, 110, "read write", "ann"), asking("app", signed), 111, "")
	b.wants(done, revoking("app", first), 111, "")
	b.same(worthless, asking("app", signed), 111, "")
}

// E5: an access token counts no more than its key.
func TestIntrospectOldKey(t *testing.T) {
	b := stands(t, home(t), config())
	first := b.issue("app", "ann", nil, 100, 1).Token
	_, signed := b.gives(refreshing("app", first), 110, secret(2))
	b.do("NewKey", func(x *table.Table) api.Errno {
		_, errno := access.NewKey(x, secret(901), 5, 112)
		return errno
	})
	b.same(told("app", 130, 1, 110, "read write", "ann"), asking("app", signed), 116, "")
	b.same(worthless, asking("app", signed), 117, "")
	_, other := b.gives(refreshing("app", first), 117, secret(3))
	b.same(told("app", 137, 1, 117, "read write", "ann"), asking("app", other), 117, "")
}

// E4, E5: a dead disk, and one that dies in a revocation.
func TestWorthDies(t *testing.T) {
	b := stands(t, home(t), config())
	first := b.issue("app", "ann", nil, 100, 1).Token
	_, signed := b.gives(refreshing("app", first), 110, secret(2))
	kill(t, b.d)
	kill(t, b.d2)
	for _, s := range []string{first, signed, "x", ""} {
		b.same(later, asking("app", s), 110, "")
		b.same(later, revoking("app", s), 110, "")
	}
}

// E5: a scope without names is told as the empty text.
func TestIntrospectNoScope(t *testing.T) {
	b := stands(t, home(t), config())
	b.do("PutClient", func(x *table.Table) api.Errno {
		c := publicClient("tv")
		c.Scope = nil
		if errno := x.PutClient(c); errno != api.OK {
			return errno
		}
		return x.Commit()
	})
	first := b.issue("tv", "ann", nil, 100, 1).Token
	b.same(told("tv", 150, 1, 100, "", "ann"), asking("app", first), 100, "")
	a := b.serve(refreshing("tv", first), 100, secret(2))
	if a.Status != 200 || memberOf(a.Body, "scope") != "" {
		t.Fatalf("%v", a)
	}
	b.same(told("tv", 120, 1, 100, "", "ann"), asking("app", memberOf(a.Body, "access_token")), 101, "")
}

// tend sweeps both.
func (b *both) tend(now int) (api.Swept, api.Errno) {
	b.t.Helper()
	want, wantErr := b.k.tend(now)
	s, errno := b.e.Tend(now)
	if s != want || errno != wantErr {
		b.t.Fatalf("Tend(%d): %v, %d; want %v, %d", now, s, errno, want, wantErr)
	}
	b.alike("Tend")
	return s, errno
}

// tends is what a sweep takes away.
func (b *both) tends(now int, want api.Swept) {
	b.t.Helper()
	if s, errno := b.tend(now); s != want || errno != api.OK {
		b.t.Fatalf("Tend(%d): %v, %d; want %v", now, s, errno, want)
	}
}

// E6: what ended Retain ago is taken away, whatever that is.
func TestTend(t *testing.T) {
	for _, retain := range []int{0, 1, 100, 1000, lastTime - 200, lastTime - 130, lastTime - 129, lastTime} {
		c := config()
		c.Retain = retain
		b := stands(t, home(t), c)
		first := b.issue("app", "ann", nil, 100, 1).Token
		b.gives(refreshing("app", first), 110, secret(2))
		b.approve("web", "bob", 20, 110, 3) // over at 130, too
		b.wants(done, revoking("app", first), 130, "")
		if retain > 0 {
			b.tends(least, api.Swept{})
			b.tends(129+retain, api.Swept{})
		}
		if 130+retain > lastTime {
			b.tends(most, api.Swept{})
			continue
		}
		b.tends(130+retain, api.Swept{Families: 1, Tokens: 2, Codes: 1})
		b.tends(most, api.Swept{})
		b.look("behind it")
	}
}

// E6: sixteen at a time; its own errors; the reading is shown.
func TestTendMany(t *testing.T) {
	b := stands(t, home(t), config())
	for n := range 20 {
		b.issue("app", fmt.Sprint("s", n), nil, 100+n, n)
	}
	full, aged := tight(t, b.d, 0), aged(t, b.d, worn)
	b.tends(249, api.Swept{})
	b.tends(251, api.Swept{Families: 2, Tokens: 2})
	b.tends(1000, api.Swept{Families: 16, Tokens: 16})
	b.tends(0, api.Swept{Families: 2, Tokens: 2}) // the time is 1000
	b.tends(0, api.Swept{})
	if b.x.Now() != 1000 {
		t.Fatalf("the time is %d", b.x.Now())
	}
	for n, d := range []interface{ Blocks() []string }{full, aged} {
		b := stands(t, loaded(t, d.Blocks()), config())
		if _, errno := b.tend(1000); errno != []api.Errno{api.ErrPagerFull, api.ErrPagerWorn}[n] {
			t.Fatalf("%d: %d", n, errno)
		}
	}
	kill(t, b.d)
	kill(t, b.d2)
	if s, errno := b.tend(1000); s != (api.Swept{}) || errno != api.ErrDead {
		t.Fatalf("%v, %d", s, errno)
	}
}

// E6: just what layer 22's Run answers of Retain and 16.
func TestTendIsRun(t *testing.T) {
	for _, retain := range []int{0, 7, 40, lastTime} {
		c := config()
		c.Retain = retain
		b := stands(t, home(t), c)
		for n := range 30 {
			now := 100 + n
			b.issue("app", fmt.Sprint("s", n%9), nil, now, n)
			if n%4 == 0 {
				b.do("RevokeAll", func(x *table.Table) api.Errno {
					_, errno := grant.RevokeAll(x, fmt.Sprint("s", n%9), now)
					return errno
				})
			}
			want, wantErr := sweep.Run(b.x2, retain, 16, now)
			s, errno := b.e.Tend(now)
			if s != want || errno != wantErr {
				t.Fatalf("%v, %d; want %v, %d", s, errno, want, wantErr)
			}
			b.alike("Tend")
		}
	}
}
