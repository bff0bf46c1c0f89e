package endpoint_test

import (
	"fmt"
	"strings"
	"testing"

	"latchkey/access"
	"latchkey/api"
	"latchkey/check"
	"latchkey/code"
	"latchkey/grant"
	"latchkey/table"
)

// E3: the answer, to the byte, and the row of tokens of one family.
func TestRefreshed(t *testing.T) {
	b := stands(t, home(t), config())
	i := b.issue("app", "ann", nil, 100, 1)
	key := api.Key{Number: 1, Secret: secret(900)}
	text, number := i.Token, 2
	for n, now := range []int{100, 120, 140, 180, 219} {
		next := textOf("lkr_", number+1, secret(10+n))
		signed := tokenOf(key, "home", api.Claims{Client: "app", Subject: "ann", Scope: names("read", "write"), Family: 1, Number: number + 1, Issued: now, End: now + 20})
		want := said(200, `{"access_token":"`+signed+`","expires_in":20,"refresh_token":"`+next+`","scope":"read write","token_type":"Bearer"}`)
		b.wants(want, refreshing("app", text), now, secret(10+n))
		// Of the same time the very same bytes; of a later one, within the grace, the same refresh token and another access token.
		b.same(want, refreshing("app", text), now, secret(99))
		if a := b.serve(refreshing("app", text), min(now+9, 219), secret(99)); memberOf(a.Body, "refresh_token") != next {
			t.Fatalf("%v", a)
		}
		text, number = next, number+1
		if number == 3 {
			b.look("behind the first one")
		}
	}
	b.wants(badGrant, refreshing("app", text), 220, secret(20))
	if s := b.stateOf(1); s != api.Expired {
		t.Fatalf("its state is %d", s)
	}
	b.look("behind all")
}

// E3: the scope that is asked for is told, and signed; that of the family stays.
func TestRefreshedScopes(t *testing.T) {
	b := stands(t, home(t), config())
	for n, c := range []struct {
		family []string
		asked  []string // the field, if there is one
		told   string
		want   api.Answer
	}{
		{nil, nil, "read write", done}, {nil, names(""), "read write", done}, {nil, names("read"), "read", done}, {nil, names("write read write"), "read write", done}, {names("read"), nil, "read", done}, {names("read"), names("read read"), "read", done},
		{names("read"), names("write"), "", badScope}, {names("read"), names("read write"), "", badScope}, {nil, names("admin"), "", badScope}, {nil, names("a b c d e f g h"), "", badScope},
		{nil, names("A"), "", badScope}, {nil, names(" "), "", badScope}, {nil, names("read  write"), "", badScope}, {nil, names("read "), "", badScope}, {nil, names("a b c d e f g h i"), "", badScope}, {nil, names(many(17, "a")), "", badScope}, {nil, names("read\x00"), "", badScope},
		{nil, names(many(1000, "read ") + "read"), "read", done},
	} {
		i := b.issue("app", fmt.Sprint("s", n), c.family, 100, 1)
		var more []string
		for _, s := range c.asked {
			more = []string{"scope", s}
		}
		m := refreshing("app", i.Token, more...)
		if c.want.Status != 200 {
			b.same(c.want, m, 100, secret(50+n))
			continue
		}
		a := b.serve(m, 100, secret(50+n))
		claims, _, errno := access.Read("home", memberOf(a.Body, "access_token"))
		if a.Status != 200 || memberOf(a.Body, "scope") != c.told || errno != api.OK || strings.Join(claims.Scope, " ") != c.told {
			t.Fatalf("%q of %q: %v, %v", c.asked, c.family, a, claims)
		}
		if f, errno := b.x.Family(i.Family); errno != api.OK || strings.Join(f.Scope, " ") != strings.Join(i.Scope, " ") {
			t.Fatalf("the family's scope is %q", f.Scope)
		}
	}
}

// E3: what is no current token of that client's own is refused; such as were spent too long ago end their family.
func TestRefreshRefused(t *testing.T) {
	b := stands(t, home(t), config())
	mine, theirs := b.issue("app", "ann", nil, 100, 1), b.issue("web", "ann", nil, 100, 2)
	given := b.approve("app", "ann", 30, 100, 3)
	next, signed := b.gives(refreshing("app", mine.Token), 100, secret(4))
	for _, text := range []string{
		"", "x", theirs.Token, given, signed, mine.Token + "x", mine.Token[1:], strings.ToUpper(mine.Token), " " + mine.Token, textOf("lkr_", 2, secret(2)), textOf("lkr_", 99, secret(1)), textOf("lkr_", lastID, secret(1)), textOf("lkc_", 2, secret(1)), many(100000, "lkr_"),
	} {
		b.same(badGrant, refreshing("app", text), 100, secret(5))
		b.same(badGrant, refreshing("app", text, "scope", "admin"), 100, secret(5)) // whatever else it asks for
	}
	for _, name := range []string{"web", "tv"} {
		b.same(badGrant, with(post("/token", "grant_type", "refresh_token", "refresh_token", mine.Token), "Authorization", basic(name, passwords[name])), 100, secret(5))
		b.same(badGrant, with(post("/token", "grant_type", "refresh_token", "refresh_token", next), "Authorization", basic(name, passwords[name])), 100, secret(5))
	}
	if b.stateOf(1) != api.Active || b.stateOf(3) != api.Active {
		t.Fatal("a family has ended")
	}
	b.wants(badGrant, refreshing("app", mine.Token), 110, secret(6)) // behind its grace
	if s := b.stateOf(1); s != api.Reused {
		t.Fatalf("its state is %d", s)
	}
	for _, text := range []string{mine.Token, next} {
		b.same(badGrant, refreshing("app", text), 110, secret(7))
		b.same(worthless, asking("web", text), 110, "")
	}
	b.same(worthless, asking("app", signed), 110, "")
	b.gives(refreshing("web", theirs.Token), 149, secret(8))
	b.look("behind all")
}

// E3: a code is redeemed once, by its verifier; the answer, to the byte.
func TestRedeemed(t *testing.T) {
	b := stands(t, home(t), config())
	text := b.approve("app", "ann", 30, 100, 1)
	for _, v := range []string{"", "x", verifier(2), verifier(1)[1:], verifier(1) + "+", many(129, "v")} {
		b.same(badGrant, redeeming("app", text, v), 110, secret(2))
	}
	for _, s := range []string{"", "x", textOf("lkc_", 1, secret(2)), textOf("lkc_", 9, secret(1)), textOf("lkr_", 1, secret(1)), text + "x", many(100000, "lkc_")} {
		b.same(badGrant, redeeming("app", s, verifier(1)), 110, secret(2))
	}
	b.same(badGrant, redeeming("web", text, verifier(1)), 110, secret(2))
	signed := tokenOf(api.Key{Number: 1, Secret: secret(900)}, "home", api.Claims{Client: "app", Subject: "ann", Scope: names("read", "write"), Family: 2, Number: 3, Issued: 129, End: 149})
	m := by("app", post("/token", "grant_type", "authorization_code", "code", text, "code_verifier", verifier(1), "scope", "A", "refresh_token", "y")) // of which it asks nothing
	b.wants(said(200, `{"access_token":"`+signed+`","expires_in":20,"refresh_token":"`+textOf("lkr_", 3, secret(2))+`","scope":"read write","token_type":"Bearer"}`), m, 129, secret(2))
	b.look("behind it")
	b.wants(badGrant, redeeming("app", text, "x"), 131, secret(3)) // again: its family ends
	if s := b.stateOf(2); s != api.Reused {
		t.Fatalf("its state is %d", s)
	}
	b.same(badGrant, refreshing("app", textOf("lkr_", 3, secret(2))), 131, secret(3))
	b.same(worthless, asking("app", signed), 131, "")
	late := b.approve("app", "ann", 30, 140, 4)
	b.same(badGrant, redeeming("app", late, verifier(4)), 170, secret(5)) // it is over
	b.look("behind all")
}

// E3: a subject that has as many families as may be.
func TestRedeemedTooMany(t *testing.T) {
	b := stands(t, home(t), config())
	text := b.approve("app", "ann", 30, 100, 1)
	for n := range 4 {
		b.issue("web", "ann", nil, 100, 10+n)
	}
	b.same(denied, redeeming("app", text, verifier(1)), 110, secret(2))
	b.same(badGrant, redeeming("app", text, verifier(2)), 110, secret(2))
	b.do("RevokeAll", func(x *table.Table) api.Errno {
		_, errno := grant.RevokeAll(x, "ann", 111)
		return errno
	})
	b.gives(redeeming("app", text, verifier(1)), 111, secret(2))
}

// E3: a code that allows more than its client may do by now, which no call of the program makes.
func TestRedeemedTooMuch(t *testing.T) {
	b := stands(t, home(t), config())
	text := b.approve("tv", "ann", 30, 100, 1)
	b.do("PutClient", func(x *table.Table) api.Errno {
		c := publicClient("tv")
		c.Scope = names("read")
		if errno := x.PutClient(c); errno != api.OK {
			return errno
		}
		return x.Commit()
	})
	b.same(badScope, redeeming("tv", text, verifier(1)), 110, secret(2))
}

// E3: what the form must have, in its order; nothing of it needs a key, a secret or a disk that has room.
func TestTokenFields(t *testing.T) {
	for _, d := range []struct {
		name string
		b    *both
	}{{"with a key", stands(t, home(t), config())}, {"without one", keyless(t)}} {
		send := func(want api.Answer, fields ...string) {
			t.Helper()
			d.b.same(want, by("app", post("/token", fields...)), 20, "")
		}
		send(badRequest)
		send(badRequest, "refresh_token", "x", "code", "x", "code_verifier", "x", "scope", "A")
		send(badRequest, "Grant_type", "refresh_token", "grant-type", "refresh_token")
		for _, kind := range []string{"", "x", "Refresh_token", "REFRESH_TOKEN", "refresh_token ", "refresh token", "password", "client_credentials", "authorization_code,refresh_token", "code", "refresh_token\x00", many(100000, "x")} {
			send(badType, "grant_type", kind)
			send(badType, "grant_type", kind, "refresh_token", "x", "code", "x", "code_verifier", "x", "scope", "A")
		}
		send(badRequest, "grant_type", "refresh_token")
		send(badRequest, "grant_type", "refresh_token", "scope", "A")
		send(badRequest, "grant_type", "refresh_token", "Refresh_token", "x", "token", "x", "code", "x", "code_verifier", "x")
		send(badScope, "grant_type", "refresh_token", "refresh_token", "", "scope", "A")
		send(badScope, "grant_type", "refresh_token", "refresh_token", "x", "scope", "a b c d e f g h i")
		send(badRequest, "grant_type", "authorization_code")
		send(badRequest, "grant_type", "authorization_code", "code", "x")
		send(badRequest, "grant_type", "authorization_code", "code_verifier", "x")
		send(badRequest, "grant_type", "authorization_code", "code", "x", "code_Verifier", "x", "refresh_token", "x")
		send(badRequest, "grant_type", "authorization_code", "token", "x", "code_verifier", "x", "scope", "A")
	}
}

// keyless is a table like home's that has no key.
func keyless(t *testing.T) *both {
	t.Helper()
	b := stands(t, home(t), config())
	b.do("RemoveKey", func(x *table.Table) api.Errno {
		if errno := x.RemoveKey(1); errno != api.OK {
			return errno
		}
		return x.Commit()
	})
	return b
}

// withKeys is a table like home's that has just these keys.
func withKeys(t *testing.T, l ...api.Key) *both {
	t.Helper()
	b := keyless(t)
	b.do("PutKey", func(x *table.Table) api.Errno {
		for _, k := range l {
			if errno := x.PutKey(k); errno != api.OK {
				return errno
			}
		}
		return x.Commit()
	})
	return b
}

// E3: without a key that signs nothing is given, and nothing that is shown is spent or ended by it, whatever it is worth.
func TestNoKey(t *testing.T) {
	key := func(n, from, until int) api.Key {
		return api.Key{Number: n, Secret: secret(900 + n), From: from, Until: until}
	}
	for n, b := range []*both{
		keyless(t), withKeys(t, key(1, 10, 120)), withKeys(t, key(1, 122, lastTime)), withKeys(t, key(1, 10, 110), key(2, 110, 121), key(5, 130, lastTime), key(4, 121, 121)), withKeys(t, key(9, 0, 0)),
	} {
		fresh, spent := b.issue("app", "ann", nil, 100, 1), b.issue("app", "ann", nil, 100, 2)
		given, used := b.approve("app", "ann", 30, 100, 3), b.approve("app", "ann", 30, 100, 4)
		b.do("Rotate", func(x *table.Table) api.Errno {
			_, errno := grant.Rotate(x, "app", spent.Token, nil, 100, secret(5))
			if errno == api.OK {
				_, errno = code.Redeem(x, "app", used, verifier(4), 100, secret(6))
			}
			return errno
		})
		for _, m := range []api.Message{
			refreshing("app", fresh.Token), refreshing("app", spent.Token), refreshing("app", "x"), refreshing("app", fresh.Token, "scope", "admin"), refreshing("web", fresh.Token),
			redeeming("app", given, verifier(3)), redeeming("app", given, "x"), redeeming("app", used, verifier(4)), redeeming("app", "x", "y"), redeeming("web", given, verifier(3)),
		} {
			b.same(later, m, 121, secret(7))
			b.same(later, m, 121, "")
		}
		b.same(badScope, refreshing("app", fresh.Token, "scope", "A"), 121, "")
		b.do("NewKey", func(x *table.Table) api.Errno {
			_, errno := access.NewKey(x, secret(950), 30, 121)
			return errno
		})
		b.gives(refreshing("app", fresh.Token), 121, secret(8))
		b.gives(redeeming("app", given, verifier(3)), 121, secret(9))
		if n < 2 {
			b.wants(badGrant, refreshing("app", spent.Token), 121, secret(10))
		}
	}
}

// E3: of several keys that sign it is the one with the greatest From, and of these the one with the greatest Number.
func TestWhichKey(t *testing.T) {
	key := func(n, from, until int) api.Key {
		return api.Key{Number: n, Secret: secret(900 + n), From: from, Until: until}
	}
	for _, c := range []struct {
		l    []api.Key
		want int
	}{
		{[]api.Key{key(1, 10, 101)}, 1}, {[]api.Key{key(1, 100, lastTime)}, 1}, {[]api.Key{key(1, 10, lastTime), key(2, 50, lastTime)}, 2}, {[]api.Key{key(1, 50, lastTime), key(2, 10, lastTime)}, 1}, {[]api.Key{key(1, 50, lastTime), key(2, 50, lastTime), key(3, 50, 100)}, 2},
		{[]api.Key{key(1, 0, 200), key(7, 20, 200), key(5, 30, 200), key(3, 101, 200)}, 5}, {[]api.Key{key(1, 0, 200), key(1<<30, 0, 200)}, 1 << 30},
	} {
		b := withKeys(t, c.l...)
		text := b.issue("app", "ann", nil, 100, 1).Token
		_, signed := b.gives(refreshing("app", text), 100, secret(2))
		if _, n, errno := access.Read("home", signed); n != c.want || errno != api.OK {
			t.Fatalf("%v: the key %d, %d; want %d", c.l, n, errno, c.want)
		}
	}
}

// E3: the key is that of the time, not of the reading.
func TestKeyOfTheTime(t *testing.T) {
	b := withKeys(t, api.Key{Number: 1, Secret: secret(901), From: 10, Until: 120})
	text := b.issue("app", "ann", nil, 100, 1).Token
	b.same(notThere, post("/"), 120, "")
	b.same(later, refreshing("app", text), 119, secret(2))
	b.same(later, refreshing("app", text), least, secret(2))
	b = withKeys(t, api.Key{Number: 1, Secret: secret(901), From: 120, Until: 130})
	text = b.issue("app", "ann", nil, 100, 1).Token
	b.same(later, refreshing("app", text), 119, secret(2))
	b.same(notThere, post("/"), 120, "")
	b.gives(refreshing("app", text), 119, secret(2))
}

// E3: secrets that may not be.
func TestTokenSecrets(t *testing.T) {
	b := stands(t, home(t), config())
	i := b.issue("app", "ann", nil, 100, 1)
	given := b.approve("app", "ann", 30, 100, 3)
	for _, s := range []string{"", "x", many(23, "s"), many(25, "s"), many(48, "s"), many(100000, "s")} {
		for _, m := range []api.Message{refreshing("app", i.Token), refreshing("app", "x"), refreshing("app", i.Token, "scope", "admin"), redeeming("app", given, verifier(3)), redeeming("app", "x", ""), redeeming("web", given, "")} {
			b.same(wrong, m, 110, s)
		}
		for _, m := range []api.Message{asking("app", "x"), revoking("app", "x")} { // which mint nothing
			if a := b.serve(m, 110, s); a.Status != 200 {
				t.Fatalf("%v", a)
			}
		}
	}
	b.gives(refreshing("app", i.Token), 110, many(24, "\xff"))
	b.gives(redeeming("app", given, verifier(3)), 110, many(24, "\x00"))
}

// E3: near the end of time the access token counts for less than its Life.
func TestTokenLate(t *testing.T) {
	for now, left := range map[int]string{lastTime - 21: "20", lastTime - 20: "20", lastTime - 19: "19", lastTime - 1: "1", lastTime: "0", lastTime + 1: "0", most: "0"} {
		b := stands(t, home(t), config())
		given := b.approve("app", "ann", most, 100, 3)
		a := b.serve(redeeming("app", given, verifier(3)), now, secret(4))
		if now >= lastTime { // it is over, and so are the keys
			wantAnswer(t, "at the end", a, later)
			continue
		}
		if a.Status != 200 || memberOf(a.Body, "expires_in") != left {
			t.Fatalf("at %d: %v", now, a)
		}
	}
	b := stands(t, home(t), config())
	b.do("PutClient", func(x *table.Table) api.Errno {
		c := publicClient("tv")
		c.Life, c.Idle, c.Absolute = lastTime, lastTime, lastTime
		if errno := x.PutClient(c); errno != api.OK {
			return errno
		}
		return x.Commit()
	})
	text := b.issue("tv", "ann", nil, 100, 1).Token
	if a := b.serve(refreshing("tv", text), 1000, secret(2)); a.Status != 200 || memberOf(a.Body, "expires_in") != fmt.Sprint(lastTime-1000) {
		t.Fatalf("%v", a)
	}
}

// E3, E5: numbers that JSON can't say: what was done is done.
func TestNumbersThatAreTooGreat(t *testing.T) {
	for next := lastNumber - 4; next < lastNumber+3; next++ {
		b := stands(t, homeOf(t, 200, next), config())
		i := b.issue("app", "ann", nil, 100, 1) // the family next, its token the one behind it
		m := refreshing("app", i.Token)
		a := b.serve(m, 110, secret(2))
		if want := map[bool]int{false: 200, true: 503}[next+2 > lastNumber]; a.Status != want {
			t.Fatalf("%d: %v", next, a)
		}
		if a.Status == 503 {
			wantAnswer(t, "it can't be said", a, later)
			b.same(later, m, 119, secret(3)) // the same again
		}
		fresh := textOf("lkr_", next+2, secret(2))
		if l, errno := b.x.Tokens(next); errno != api.OK || len(l) != 2 || l[1].ID != next+2 {
			t.Fatalf("%d: %v, %d", next, l, errno)
		}
		told := said(200, fmt.Sprintf(`{"active":true,"client_id":"app","exp":160,"fam":%d,"iat":110,"scope":"read write","sub":"ann"}`, next))
		if next > lastNumber {
			told = later
		}
		b.same(told, asking("app", fresh), 120, "")
		b.same(worthless, asking("app", i.Token), 120, "") // a spent one
		given := b.approve("app", "bob", 30, 120, 4)
		a = b.serve(redeeming("app", given, verifier(4)), 120, secret(5)) // the code next + 3, the family + 4, the token + 5
		if want := map[bool]int{false: 200, true: 503}[next+5 > lastNumber]; a.Status != want {
			t.Fatalf("%d: %v", next, a)
		}
		if b.stateOf(next+4) != api.Active {
			t.Fatal("it was not redeemed")
		}
		b.wants(done, revoking("app", fresh), 121, "")
		if b.stateOf(next) != api.Revoked {
			t.Fatal("it was not revoked")
		}
		b.same(worthless, asking("app", fresh), 121, "")
		b.look("behind all")
	}
}

// E3, E4: no room, or no number left: nothing is changed, and the same may be asked again.
func TestNoRoomNoNumber(t *testing.T) {
	base := stands(t, home(t), config())
	i, spent := base.issue("app", "ann", nil, 100, 1), base.issue("app", "bob", nil, 100, 2)
	given := base.approve("app", "eve", 30, 100, 3)
	base.gives(refreshing("app", spent.Token), 100, secret(4))
	full, aged := tight(t, base.d, 0), aged(t, base.d, worn)
	for n, b := range []*both{stands(t, full, config()), stands(t, aged, config())} {
		for _, m := range []api.Message{refreshing("app", i.Token), redeeming("app", given, verifier(3)), revoking("app", i.Token), refreshing("app", spent.Token)} {
			now := 119 // spent too long ago
			b.same(later, m, now, secret(5))
			b.same(later, m, now, secret(5))
		}
		b.same(badScope, refreshing("app", i.Token, "scope", "admin"), 0, secret(5))
		b.same(later, refreshing("app", i.Token), 150, secret(5)) // expired
		b.same(worthless, asking("app", i.Token), 0, "")
		if s := b.stateOf(i.Family); s != api.Active {
			t.Fatalf("%d: its state is %d", n, s)
		}
	}
	// Of no IDs, and of no generation.
	for _, next := range []int{lastID - 1, lastID, lastID + 1} {
		b := stands(t, homeOf(t, 200, lastID-3), config())
		text := b.issue("app", "ann", nil, 100, 1).Token // the last one but two
		b.do("ID", func(x *table.Table) api.Errno {
			for id := lastID - 1; id < next; id++ {
				if _, errno := x.ID(); errno != api.OK {
					return errno
				}
			}
			return x.Commit()
		})
		a := b.serve(refreshing("app", text), 110, secret(2)) // 503 by the number that JSON can't say, or as there is none
		wantAnswer(t, "the last numbers", a, later)
		l, errno := b.x.Tokens(lastID - 3)
		if rotated := next <= lastID; errno != api.OK || (len(l) == 2) != rotated {
			t.Fatalf("%d: %d tokens, %d", next, len(l), errno)
		}
		b.wants(done, revoking("app", text), 111, "")
	}
}

// E3: a death in any act of what is asked: 503, as is all behind it.
func TestTokenDies(t *testing.T) {
	base := stands(t, home(t), config())
	i := base.issue("app", "ann", nil, 100, 1)
	given := base.approve("app", "eve", 30, 100, 3)
	for _, m := range []api.Message{refreshing("app", i.Token), redeeming("app", given, verifier(3)), revoking("app", i.Token)} {
		for act := 1; ; act++ {
			b := stands(t, base.d, config())
			wantErrno(t, "Arm", b.d.Arm(act), api.OK)
			wantErrno(t, "Arm", b.d2.Arm(act), api.OK)
			a := b.serve(m, 110, secret(5))
			if !b.d.Dead() {
				if a.Status != 200 || act < 5 {
					t.Fatalf("%d acts: %v", act-1, a)
				}
				break
			}
			wantAnswer(t, "it died", a, later)
			b.same(later, m, 110, secret(6))
			b.same(later, asking("app", "x"), 110, "")
		}
	}
	findings, errno := check.Image(base.d.Blocks())
	if len(findings) > 0 || errno != api.OK {
		t.Fatalf("%v, %d", findings, errno)
	}
}
