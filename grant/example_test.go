package grant_test

import (
	"testing"

	"latchkey/api"
	"latchkey/grant"
)

// The chapter's first example.
func TestExampleFamily(t *testing.T) {
	b := newBoth(t)
	a := b.want(issue("app", "ann", names("read"), 100, secret(1)), api.OK).issued
	if !same(a, api.Issued{Token: textOf("lkr_", 2, secret(1)), Family: 1, Gen: 1, Scope: names("read"), Subject: "ann", Life: 20}) {
		t.Fatalf("Issue: %v", a)
	}
	second := b.want(rotate("app", a.Token, nil, 110, secret(2)), api.OK).issued
	if !same(second, api.Issued{Token: textOf("lkr_", 3, secret(2)), Family: 1, Gen: 2, Scope: names("read"), Subject: "ann", Life: 20}) {
		t.Fatalf("Rotate: %v", second)
	}
	if again := b.want(rotate("app", a.Token, nil, 119, secret(3)), api.OK).issued; !same(again, second) {
		t.Fatalf("again: %v", again)
	}
	b.want(rotate("app", a.Token, nil, 120, secret(3)), api.ErrGrantToken)
	if b.want(introspect(second.Token, 120), api.OK).info.Active {
		t.Fatal("it is active")
	}
	b.want(rotate("app", second.Token, nil, 120, secret(4)), api.ErrGrantToken)
	b.family(1, api.Reused, 120)
}

// The chapter's second example.
func TestExampleRefused(t *testing.T) {
	b := newBoth(t)
	b.want(issue("app", "ann", names("admin"), 100, secret(1)), api.ErrGrantScope)
	b.want(issue("gone", "ann", nil, 100, secret(1)), api.ErrClientNone)
	b.want(issue("app", "ann", nil, 100, secret(1)[1:]), api.ErrArg)
	for n := range 4 {
		b.want(issue("app", "ann", nil, 100, secret(n)), api.OK)
	}
	b.want(issue("app", "ann", nil, 100, secret(5)), api.ErrGrantMany)
	if n := b.want(revokeAll("ann", 130), api.OK).count; n != 4 {
		t.Fatalf("RevokeAll: %d", n)
	}
	if n := b.want(revokeAll("ann", 130), api.OK).count; n != 0 {
		t.Fatalf("again: %d", n)
	}
	b.want(issue("app", "ann", nil, 130, secret(6)), api.OK)
}

// The chapter's third example.
func TestExampleEnds(t *testing.T) {
	b := newBoth(t)
	first := b.gives(issue("app", "ann", nil, 100, secret(1)))
	b.want(rotate("app", first, nil, 150, secret(2)), api.ErrGrantToken)
	b.family(1, api.Expired, 150)
	b.want(revoke("app", "x", 150), api.OK)
	other := b.gives(issue("app", "ann", nil, 150, secret(3)))
	b.want(rotate("web", other, nil, 150, secret(4)), api.ErrGrantToken)
	b.family(3, api.Active, 0)
	b.want(rotate("app", other, nil, 150, secret(5)), api.OK)
}

// DOC.md's examples of the whole, 1 and 2.
func TestExampleDeadlines(t *testing.T) {
	b := newBoth(t)
	first := b.gives(issue("app", "ann", nil, 100, secret(1)))
	second := b.gives(rotate("app", first, nil, 110, secret(2)))
	if end := b.want(introspect(second, 158), api.OK).info.End; end != 160 {
		t.Fatalf("the end is %d", end)
	}
	third := b.gives(rotate("app", second, nil, 159, secret(3)))
	if end := b.want(introspect(third, 159), api.OK).info.End; end != 209 {
		t.Fatalf("the end is %d", end)
	}
	fourth := b.gives(rotate("app", third, nil, 205, secret(4)))
	if end := b.want(introspect(fourth, 219), api.OK).info.End; end != 220 {
		t.Fatalf("the end is %d", end)
	}
	b.want(rotate("app", fourth, nil, 220, secret(5)), api.ErrGrantToken)
	b.family(1, api.Expired, 220)
}

// DOC.md's example of the whole, 3: the disk dies in the last act of a rotation, the sync behind the head.
func TestExampleDies(t *testing.T) {
	t.Parallel()
	for sectors := range 256 {
		b := newBoth(t)
		first := b.gives(issue("app", "ann", nil, 100, secret(1)))
		probe := b.twin(t)
		probe.want(rotate("app", first, nil, 110, secret(2)), api.OK)
		wantErrno(t, "Arm", b.d.Arm(probe.d.Acts()), api.OK)
		b.answered(rotate("app", first, nil, 110, secret(2)), answer{errno: api.ErrDead})
		if len(b.d.Pending()) != 1 {
			t.Fatal("the test is wrong")
		}
		wantErrno(t, "Crash", b.d.Crash([]api.Keep{{N: 0, Sectors: sectors}}), api.OK)
		x := opened(t, b.d)
		want, now := textOf("lkr_", 3, secret(3)), 100
		if sectors%2 == 1 { // the head's first sector stayed
			want, now = textOf("lkr_", 3, secret(2)), 110
		}
		if x.Now() != now {
			t.Fatalf("%d: the time is %d", sectors, x.Now())
		}
		if a, errno := grant.Rotate(x, "app", first, nil, 111, secret(3)); errno != api.OK || a.Token != want || a.Gen != 2 {
			t.Fatalf("%d: %v, %d", sectors, a, errno)
		}
	}
}
