package code_test

import (
	"testing"

	"latchkey/api"
	"latchkey/code"
)

// The chapter's first example.
func TestExampleChallenge(t *testing.T) {
	if c, errno := code.Challenge(v); c != "7w_YNF9DSfIdPf_pRjSq646_kPr-2-o9NAl16JGghdM" || errno != api.OK {
		t.Fatalf("Challenge(v): %q, %d", c, errno)
	}
	for _, s := range []string{v[:42], many(129, "v"), v[:42] + "+"} {
		if c, errno := code.Challenge(s); c != "" || errno != api.ErrArg {
			t.Fatalf("Challenge(%q): %q, %d", s, c, errno)
		}
	}
}

// The chapter's second example.
func TestExampleOnce(t *testing.T) {
	b := newBoth(t)
	text := b.gives(approve("app", "ann", names("read"), ofV, 30, 100, secret(1)))
	if len(text) != 52 || text != textOf("lkc_", 1, secret(1)) {
		t.Fatalf("Approve: %q", text)
	}
	fresh := api.Code{ID: 1, Client: "app", Subject: "ann", Scope: names("read"), Hash: digestOf(text), Challenge: digestOf(v), Until: 130, State: api.CodeFresh}
	b.codes(fresh)
	b.want(redeem("web", text, v, 100, secret(2)), api.ErrCodeToken)
	b.want(redeem("app", text, w, 110, secret(2)), api.ErrCodeVerify)
	late := b.twin(t)
	a := b.want(redeem("app", text, v, 129, secret(2)), api.OK).issued
	if !same(a, api.Issued{Token: textOf("lkr_", 3, secret(2)), Family: 2, Gen: 1, Scope: names("read"), Subject: "ann", Life: 20}) {
		t.Fatalf("Redeem: %#v", a)
	}
	spent := fresh
	spent.State, spent.Family = api.CodeSpent, 2
	b.codes(spent)
	if f, errno := b.x.Family(2); f.Code != 1 || errno != api.OK {
		t.Fatalf("the family: %#v, %d", f, errno)
	}
	b.want(redeem("app", text, w, 131, secret(3)), api.ErrCodeToken)
	b.family(2, api.Reused, 131)
	b.event(api.EventReuse, 2, 131, "app")
	late.want(redeem("app", text, v, 130, secret(2)), api.ErrCodeToken)
	late.codes(fresh)
}

// The chapter's third example.
func TestExampleRefused(t *testing.T) {
	b := newBoth(t)
	b.want(approve("app", "ann", names("admin"), ofV, 30, 100, secret(1)), api.ErrGrantScope)
	b.want(approve("app", "ann", nil, ofV, 30, 100, secret(1)), api.OK)
	if k, errno := b.x.Code(1); errno != api.OK || !same(k.Scope, names("read", "write")) {
		t.Fatalf("the code: %#v, %d", k, errno)
	}
	b.want(approve("app", "ann", nil, ofV, -5, 140, secret(1)), api.OK)
	if k, errno := b.x.Code(2); errno != api.OK || k.Until != 140 {
		t.Fatalf("the code: %#v, %d", k, errno)
	}
	b.want(approve("app", "ann", nil, ofV+"=", 30, 140, secret(1)), api.ErrArg)
}

// The chapter's fourth example.
func TestExampleMany(t *testing.T) {
	b := newBoth(t)
	for n := range 8 {
		b.code(10+n, 100, n)
	}
	b.want(approve("app", "ann", nil, ofV, 10, 109, secret(9)), api.ErrCodeMany)
	b.want(approve("app", "ann", nil, ofV, 10, 111, secret(9)), api.OK)
	l, errno := b.x.Codes()
	if errno != api.OK || len(l) != 7 || l[0].ID != 3 || l[6].ID != 9 {
		t.Fatalf("the codes: %#v, %d", l, errno)
	}
}
