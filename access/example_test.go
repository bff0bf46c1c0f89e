package access_test

import (
	"testing"

	"latchkey/access"
	"latchkey/api"
	"latchkey/grant"
)

// The chapter's first example.
func TestExampleSign(t *testing.T) {
	if s, errno := access.Sign(three(), "home", claims()); s != example || errno != api.OK {
		t.Fatalf("Sign: %q, %d", s, errno)
	}
	head := lettersOf(`{"alg":"HS256","kid":"3","typ":"at+jwt"}`)
	body := lettersOf(`{"client_id":"app","exp":40,"fam":1,"iat":20,"iss":"home","jti":2,"scope":"read","sub":"ann"}`)
	if example != head+"."+body+"."+lettersOf(macOf(three().Secret, head+"."+body)) {
		t.Fatal("the test is wrong")
	}
}

// The chapter's second example.
func TestExampleVerify(t *testing.T) {
	other, from, until := three(), three(), three()
	other.Secret, from.From, until.Until = secret(1), 21, 30
	for _, c := range []struct {
		keys      []api.Key
		issuer, s string
		now       int
		want      api.Errno
	}{
		{[]api.Key{three()}, "home", example, 20, api.OK},
		{[]api.Key{three()}, "home", example, 39, api.OK},
		{[]api.Key{three()}, "home", example, 40, api.ErrAccessTime},
		{[]api.Key{three()}, "home", example, 19, api.ErrAccessTime},
		{[]api.Key{three()}, "work", example, 20, api.ErrAccessForm},
		{[]api.Key{three()}, "home", example + ".", 20, api.ErrAccessForm},
		{nil, "home", example, 20, api.ErrAccessKey},
		{[]api.Key{other}, "home", example, 20, api.ErrAccessSign},
		{[]api.Key{from}, "home", example, 20, api.ErrAccessKey},
		{[]api.Key{until}, "home", example, 30, api.ErrAccessKey},
	} {
		wantErrno(t, "Verify", wantVerify(t, c.keys, c.issuer, c.s, c.now), c.want)
	}
	c := claims()
	c.Family = 1 << 53
	wantNoSign(t, three(), "home", c, api.ErrAccessClaim)
}

// The chapter's third example.
func TestExampleNewKey(t *testing.T) {
	b := founded(t, 64, 0)
	s := many(24, "s")
	b.makes(1, s, 30, 50)
	one := api.Key{Number: 1, Secret: s, From: 50, Until: lastTime}
	wantKeys(t, b, one)
	b.makes(2, s, 30, 60)
	one.Until = 90
	two := api.Key{Number: 2, Secret: s, From: 60, Until: lastTime}
	wantKeys(t, b, one, two)
	wantCurrent(t, b.e.keys, 59, one)
	wantCurrent(t, b.e.keys, 60, two)
	b.makes(3, s, 30, 70)
	b.makes(4, s, 30, 80)
	b.refuses(s, 30, 85, api.ErrAccessMany)
	b.makes(5, s, 30, 90)
	two.Until = 100
	wantKeys(t, b, two, api.Key{Number: 3, Secret: s, From: 70, Until: 110}, api.Key{Number: 4, Secret: s, From: 80, Until: 120}, api.Key{Number: 5, Secret: s, From: 90, Until: lastTime})
}

// The fifth example of the whole: what was signed for a family counts for its Life, also if that family was revoked; its own table knows better.
func TestExampleOfTheWhole(t *testing.T) {
	b := founded(t, 64, 0, layClient(app()))
	b.makes(1, secret(1), 30, 100)
	a, errno := grant.Issue(b.x, "app", "ann", nil, 110, secret(2))
	wantErrno(t, "Issue", errno, api.OK)
	k, _ := access.Current(b.e.keys, 110)
	s := wantSign(t, k, "home", api.Claims{Client: "app", Subject: a.Subject, Scope: a.Scope, Family: a.Family, Number: 101, Issued: 110, End: 110 + a.Life})
	b.e = toldOf(t, b.x)
	if !b.worth("home", s, 110) {
		t.Fatal("the test is wrong")
	}
	wantErrno(t, "Revoke", grant.Revoke(b.x, "app", a.Token, 111), api.OK)
	b.e = toldOf(t, b.x)
	wantErrno(t, "at 129", wantVerify(t, b.e.keys, "home", s, 129), api.OK)
	wantErrno(t, "at 130", wantVerify(t, b.e.keys, "home", s, 130), api.ErrAccessTime)
	if b.worth("home", s, 111) || b.worth("home", s, 129) {
		t.Fatal("a family that was revoked is worth nothing to its own table")
	}
}
