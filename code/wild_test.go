package code_test

import (
	"testing"

	"latchkey/api"
	"latchkey/code"
	"latchkey/table"
)

// wildText is the text of the code 6, as the tables of this file have it.
func wildText() string { return textOf("lkc_", 6, secret(1)) }

func wildCode(state, family int) api.Code {
	return api.Code{ID: 6, Client: "app", Subject: "ann", Scope: names("read"), Hash: digestOf(wildText()), Challenge: digestOf(v), Until: 500, State: state, Family: family}
}

func wildFamily(used int) api.Family {
	return api.Family{ID: 5, Client: "app", Subject: "ann", Scope: names("read"), Created: 100, Used: used, Idle: 50, Absolute: 120, Grace: 10, Gen: 1, Token: 7, State: api.Active, Code: 6}
}

// wild is a table on which something stands, whether it belongs together or not.
func wild(t *testing.T, next int, lays ...func(x *table.Table) api.Errno) *both {
	t.Helper()
	b := founded(t, 128, next, 0, three()...)
	b.x.See(100)
	for _, lay := range lays {
		wantErrno(t, "what is laid", lay(b.x), api.OK)
	}
	wantErrno(t, "Commit", b.x.Commit(), api.OK)
	return b
}

// R1: of records that do not belong together each call ends, and none panics.
func TestWildTables(t *testing.T) {
	put := func(k api.Code) func(x *table.Table) api.Errno {
		return func(x *table.Table) api.Errno { return x.PutCode(k) }
	}
	family := func(f api.Family) func(x *table.Table) api.Errno {
		return func(x *table.Table) api.Errno { return x.PutFamily(f) }
	}
	chain := func(base, next int) func(x *table.Table) api.Errno {
		return func(x *table.Table) api.Errno {
			return x.PutChain(api.Chain{Base: base, Next: next, BaseHash: digestOf("a"), NextHash: digestOf("b")})
		}
	}
	stray := func(x *table.Table) api.Errno { return x.PutEvent(api.Event{Number: 50, Kind: api.EventKey}) }
	crowd := func(x *table.Table) api.Errno {
		for n := range 30 {
			k := wildCode(api.CodeFresh, 0)
			k.ID, k.Until = 10+n, 100+10*n
			if errno := x.PutCode(k); errno != api.OK {
				return errno
			}
		}
		return api.OK
	}
	lone := wildCode(api.CodeFresh, 0)
	lone.Client = "gone"
	nameless := wildCode(api.CodeFresh, 0)
	nameless.Scope = nil
	greatest := wildCode(api.CodeSpent, lastID)
	tables := []*both{
		wild(t, 100, put(wildCode(api.CodeSpent, 77))), wild(t, 100, put(greatest)), wild(t, 100, put(wildCode(api.CodeSpent, 5)), family(wildFamily(5000))),
		wild(t, 100, put(wildCode(api.CodeSpent, 5)), family(wildFamily(100)), chain(3, 36)), wild(t, 100, put(wildCode(api.CodeSpent, 5)), family(wildFamily(100)), chain(0, 33), stray),
		wild(t, 100, put(wildCode(api.CodeFresh, 0)), chain(3, 36)), wild(t, 100, put(wildCode(api.CodeFresh, 0)), chain(lastID-1, lastID+1), stray), wild(t, 5, put(wildCode(api.CodeFresh, 0))), wild(t, 6, put(wildCode(api.CodeFresh, 0))),
		wild(t, 5, put(wildCode(api.CodeFresh, 0)), family(wildFamily(100))), wild(t, 100, put(lone)), wild(t, 100, put(nameless)), wild(t, 100, crowd), wild(t, 12, crowd),
	}
	for n, b := range tables {
		for _, now := range []int{least, 110, 120, 150, 4005, 6000, most} {
			for _, text := range []string{wildText(), textOf("lkc_", lastID, secret(9)), textOf("lkc_", 7, secret(1))} {
				for _, c := range []call{
					redeem("app", text, v, now, secret(2)), redeem("app", text, w, now, secret(2)), redeem("gone", text, v, now, secret(2)),
					approve("app", "ann", nil, ofV, 30, now, secret(3)), approve("app", "ann", names("admin"), ofV, 30, now, secret(3)), redeem("app", text, v, now, secret(2)),
				} {
					if a := c.do(b.x); a.errno != api.OK && !a.same(answer{errno: a.errno}) {
						t.Fatalf("%d: %s: %#v", n, c.what, a)
					}
				}
			}
		}
	}
}

// C2: more than eight that are Fresh and not over, as no calls would leave them, are too many, too.
func TestWildMany(t *testing.T) {
	b := wild(t, 100, func(x *table.Table) api.Errno {
		for n := range 20 {
			k := wildCode(api.CodeFresh, 0)
			k.ID, k.Until = 10+n, 200+n
			if errno := x.PutCode(k); errno != api.OK {
				return errno
			}
		}
		return api.OK
	})
	for _, now := range []int{100, 199, 200, 211} {
		b.wantRefused(approve("app", "ann", nil, ofV, 30, now, secret(1)), api.ErrCodeMany)
	}
	if text, errno := code.Approve(b.x, "app", "ann", nil, ofV, 30, 212, secret(1)); text != textOf("lkc_", 100, secret(1)) || errno != api.OK {
		t.Fatalf("%q, %d", text, errno)
	}
}

// R1: all numbers, texts and lists, together.
func TestWildArguments(t *testing.T) {
	b, fresh, used := shown(t)
	texts := append(wrongNames(), "app", "gone", "off", fresh, used, secret(1), v, ofV, many(100000, "\xff"))
	numbers := []int{least, least + 1, -lastID, -1, 0, 1, 110, 119, lastTime, lastID, lastID + 1, most}
	scopes := append(wrongScopes(), nil, names(), names("read"), names("admin"))
	for n, text := range texts {
		for m, other := range texts {
			now, life := numbers[(n+m)%len(numbers)], numbers[(n+5*m)%len(numbers)]
			scope := scopes[(n+2*m)%len(scopes)]
			for _, c := range []call{
				approve(text, other, scope, other, life, now, other), approve("app", "ann", scope, text, life, now, other), approve("app", "ann", nil, ofV, life, now, other), approve("app", other, nil, ofV, life, now, secret(m)),
				redeem(text, other, text, now, other), redeem("app", text, other, now, secret(m)), redeem(text, fresh, v, now, secret(m)),
			} {
				b.quick(c)
			}
			if c, errno := code.Challenge(text); (errno == api.OK) != isVerifierOK(text) || (c == "") != (errno != api.OK) {
				t.Fatalf("Challenge(%.60q): %q, %d", text, c, errno)
			}
		}
	}
	b.look("behind all")
}
