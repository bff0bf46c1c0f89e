package sweep_test

import (
	"testing"

	"latchkey/api"
)

// The chapter's first example, and the fourth of the whole.
func TestExampleRevoked(t *testing.T) {
	b := newBoth(t)
	token := b.issued("ann", 100, 1)
	b.want(rotate("app", token, nil, 110, secret(2)), api.OK)
	b.want(issue("web", "bob", nil, 100, secret(3)), api.OK)
	b.want(revoke("app", token, 130), api.OK)
	alive := b.twin(t)
	b.due(1000, 1129, 0, 0)
	b.run(1000, 16, 1129, api.Swept{})
	b.run(1000, 16, 1130, api.Swept{Families: 1, Tokens: 2})
	b.due(1000, 1130, 0, 0)
	b.left(4)
	b.want(rotate("app", token, nil, 1131, secret(4)), api.ErrGrantToken)
	b.want(introspect(token, 1131), api.OK)
	alive.run(20, 16, 150, api.Swept{Families: 1, Tokens: 2})
	alive.left(4)
	alive.due(0, 159, 0, 0)
}

// The chapter's second example.
func TestExampleMost(t *testing.T) {
	b := newBoth(t)
	for n := range 3 {
		token := b.issued("ann", 100+10*n, n)
		b.want(revoke("app", token, 105+10*n), api.OK)
	}
	b.due(10, 1000, 3, 0)
	b.run(10, 2, 1000, api.Swept{Families: 2, Tokens: 2})
	b.left(5)
	b.sweeps(1000, "app", 1, 3)
	b.due(10, 1000, 1, 0)
}

// The chapter's third example.
func TestExampleNone(t *testing.T) {
	b := newBoth(t)
	b.want(run(0, 0, 5), api.ErrArg)
	if b.x.Now() != 5 {
		t.Fatalf("the time is %d", b.x.Now())
	}
}
