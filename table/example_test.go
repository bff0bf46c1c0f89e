package table_test

import (
	"testing"

	"latchkey/api"
	"latchkey/table"
)

// The chapter's Examples, one by one.

func TestExample1(t *testing.T) {
	d := blank(t, 16)
	wantRefused(t, "noughts", d, api.ErrPagerForm)
	wantErrno(t, "Format", table.Format(d), api.OK)
	wantErrno(t, "Format", table.Format(d), api.ErrPagerThere)
	acts := d.Acts()
	x := opened(t, d)
	if d.Acts() != acts || x.Now() != 0 {
		t.Fatalf("Open: %d acts; Now: %d", d.Acts()-acts, x.Now())
	}
	wantCall(t, x, allClients(), []api.Client{}, api.OK)
	wantCall(t, x, theChainCall(), api.Chain{Base: 0, Next: 1, BaseHash: many(32, "\x00"), NextHash: many(32, "\x00")}, api.OK)
	wantCall(t, x, nextID(), 1, api.OK)
	wantCall(t, x, nextID(), 2, api.OK)
	x.Abort()
	wantCall(t, x, nextID(), 1, api.OK)
	wantCall(t, x, getClient("app"), nil, api.ErrTableNone)
	wantCall(t, x, getClient("APP"), nil, api.ErrArg)
	wantCall(t, x, getFamily(0), nil, api.ErrArg)
}

func TestExample2(t *testing.T) {
	d, x := began(t, 16)
	wantCall(t, x, nextID(), 1, api.OK)
	wantCall(t, x, see(50), 50, api.OK)
	wantErrno(t, "PutClient", x.PutClient(someClient("app")), api.OK)
	wantCall(t, x, allClients(), []api.Client{someClient("app")}, api.OK)
	wantActs(t, d, x, api.OK, 4)
	y := opened(t, d)
	if y.Now() != 50 {
		t.Fatalf("Now: %d", y.Now())
	}
	wantCall(t, y, nextID(), 2, api.OK)
	wantActs(t, d, y, api.OK, 3)
}

func TestExample3(t *testing.T) {
	_, x := began(t, 64)
	wantErrno(t, "PutFamily", x.PutFamily(someFamily(3, 4, 0, "ann")), api.OK)
	wantErrno(t, "PutToken", x.PutToken(current(4, 3, 1)), api.OK)
	wantCall(t, x, tokensOf(3), []api.Token{current(4, 3, 1)}, api.OK)
	wantErrno(t, "PutToken", x.PutToken(current(5, 3, 1)), api.ErrTableForm)
	wantErrno(t, "Remove", x.Remove(3), api.OK)
	wantCall(t, x, tokensOf(3), []api.Token{}, api.OK)
	wantCall(t, x, getToken(4), nil, api.ErrTableNone)
	wantErrno(t, "Remove", x.Remove(3), api.ErrTableNone)
}

func TestExample4(t *testing.T) {
	_, x := began(t, 64)
	for _, f := range []api.Family{someFamily(7, 1, 100, "ann"), someFamily(3, 1, 100, "ann"), someFamily(5, 1, 70, "ann")} {
		wantErrno(t, "PutFamily", x.PutFamily(f), api.OK)
	}
	wantCall(t, x, ending(150, 9), []int{5}, api.OK)
	wantCall(t, x, ending(151, 2), []int{5, 3}, api.OK)
	wantCall(t, x, ending(151, 0), []int{}, api.OK)
}
