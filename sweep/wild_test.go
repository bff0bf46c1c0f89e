package sweep_test

import (
	"testing"

	"latchkey/api"
	"latchkey/table"
)

func wildFamily(id, code int) api.Family {
	return api.Family{ID: id, Client: "app", Subject: "ann", Scope: names("read"), Created: 100, Used: 100, Idle: 50, Absolute: 120, Grace: 10, Gen: 1, Token: id + 1, State: api.Active, Code: code}
}

func wildToken(id, family, gen int) api.Token {
	return api.Token{ID: id, Family: family, Gen: gen, Hash: digestOf("a"), Minted: 100}
}

func wildCode(id, state, family, until int) api.Code {
	return api.Code{ID: id, Client: "app", Subject: "ann", Hash: digestOf("a"), Challenge: digestOf(v), Until: until, State: state, Family: family}
}

// lays lays something down.
type lays func(x *table.Table) api.Errno

func putFamily(f api.Family) lays { return func(x *table.Table) api.Errno { return x.PutFamily(f) } }

func putToken(k api.Token) lays { return func(x *table.Table) api.Errno { return x.PutToken(k) } }

func putCode(k api.Code) lays { return func(x *table.Table) api.Errno { return x.PutCode(k) } }

func putChain(base, next int) lays {
	return func(x *table.Table) api.Errno {
		return x.PutChain(api.Chain{Base: base, Next: next, BaseHash: digestOf("a"), NextHash: digestOf("b")})
	}
}

func putStray(x *table.Table) api.Errno { return x.PutEvent(api.Event{Number: 50, Kind: api.EventKey}) }

// wild is a table on which something stands at 100, whether it belongs together or not.
func wild(t *testing.T, l ...lays) *both {
	t.Helper()
	b := founded(t, 128, 100, 0, three()...)
	b.x.See(100)
	for _, lay := range l {
		wantErrno(t, "what is laid", lay(b.x), api.OK)
	}
	wantErrno(t, "Commit", b.x.Commit(), api.OK)
	return b
}

// S2: of records that do not belong together what is taken away is counted, each thing once.
func TestWildCounts(t *testing.T) {
	ended, ahead := wildFamily(5, 0), wildFamily(5, 0)
	ended.State, ended.Ended = api.Revoked, 500
	ahead.Created, ahead.Used = 400, 400
	for n, c := range []struct {
		lay   []lays
		now   int
		due   [2]int
		swept api.Swept
	}{
		{[]lays{putFamily(wildFamily(5, 0))}, 150, [2]int{1, 0}, api.Swept{Families: 1}},                                                                                                      // no token
		{[]lays{putFamily(wildFamily(5, 0)), putToken(wildToken(9, 5, 1)), putToken(wildToken(8, 5, 7)), putToken(wildToken(7, 6, 1))}, 150, [2]int{1, 0}, api.Swept{Families: 1, Tokens: 2}}, // too many
		{[]lays{putFamily(wildFamily(5, 3))}, 150, [2]int{1, 0}, api.Swept{Families: 1}},                                                                                                      // no code
		{[]lays{putFamily(wildFamily(5, lastID))}, 150, [2]int{1, 0}, api.Swept{Families: 1}},                                                                                                 // likewise
		{[]lays{putFamily(wildFamily(5, 3)), putFamily(wildFamily(8, 3)), putCode(wildCode(3, api.CodeSpent, 5, 200))}, 150, [2]int{2, 0}, api.Swept{Families: 2, Codes: 1}},                  // of one code
		{[]lays{putFamily(wildFamily(5, 3)), putCode(wildCode(3, api.CodeFresh, 0, 140))}, 150, [2]int{1, 1}, api.Swept{Families: 1, Codes: 1}},                                               // which is due itself
		{[]lays{putFamily(wildFamily(5, 3)), putCode(wildCode(3, api.CodeFresh, 0, 160))}, 150, [2]int{1, 0}, api.Swept{Families: 1, Codes: 1}},                                               // which is not
		{[]lays{putFamily(wildFamily(5, 3)), putCode(wildCode(3, api.CodeSpent, 77, 140))}, 150, [2]int{1, 0}, api.Swept{Families: 1, Codes: 1}},                                              // which names another one
		{[]lays{putCode(wildCode(3, api.CodeSpent, 5, 0))}, 150, [2]int{}, api.Swept{}},                                                                                                       // whose family is gone
		{[]lays{putFamily(wildFamily(5, 0)), putCode(wildCode(3, api.CodeSpent, 5, 0))}, 150, [2]int{1, 0}, api.Swept{Families: 1}},                                                           // whose family does not name it
		{[]lays{putFamily(ended)}, 499, [2]int{}, api.Swept{}},                                                                                                                                // ended ahead of the time
		{[]lays{putFamily(ended)}, 500, [2]int{1, 0}, api.Swept{Families: 1}},
		{[]lays{putFamily(ahead)}, 449, [2]int{}, api.Swept{}}, // begun ahead of the time
		{[]lays{putFamily(ahead)}, 450, [2]int{1, 0}, api.Swept{Families: 1}},
	} {
		b := wild(t, c.lay...)
		acts := b.d.Acts()
		if a := due(0, c.now).do(b.x); a.due != c.due || a.errno != api.OK || b.d.Acts() != acts {
			t.Fatalf("%d: Due: %#v", n, a)
		}
		if a := run(0, 16, c.now).do(b.x); a.swept != c.swept || a.errno != api.OK || b.d.Acts() > acts != (c.swept != api.Swept{}) {
			t.Fatalf("%d: Run: %#v", n, a)
		}
		if a := run(0, 16, c.now).do(b.x); !a.same(answer{}) {
			t.Fatalf("%d: Run again: %#v", n, a)
		}
	}
}

// S2: more codes that are due than there may be Fresh ones: all go.
func TestWildManyCodes(t *testing.T) {
	var l []lays
	for n := range 40 {
		l = append(l, putCode(wildCode(10+n, api.CodeFresh, 0, 100+n)))
	}
	b := wild(t, l...)
	if a := due(5, 124).do(b.x); a.due != [2]int{0, 20} {
		t.Fatalf("Due: %#v", a)
	}
	if a := run(5, 1, 124).do(b.x); a.swept != (api.Swept{Codes: 20}) {
		t.Fatalf("Run: %#v", a)
	}
	if a := due(0, most).do(b.x); a.due != [2]int{0, 20} {
		t.Fatalf("Due: %#v", a)
	}
}

// R1: of a trail that is broken each call ends, and none panics; what is refused changes nothing.
func TestWildTrails(t *testing.T) {
	for n, l := range [][]lays{{putChain(3, 36)}, {putChain(0, 33), putStray}, {putChain(lastID-1, lastID+1), putStray}, {putChain(lastID, lastID+1)}, {putChain(5, 6), putStray}, {putStray}} {
		b := wild(t, append(l, putFamily(wildFamily(5, 3)), putCode(wildCode(3, api.CodeSpent, 5, 500)), putToken(wildToken(6, 5, 1)), putCode(wildCode(4, api.CodeFresh, 0, 120)))...)
		for _, now := range []int{least, 110, 120, 150, most} {
			for _, c := range []call{due(0, now), run(30, 16, now), run(30, 0, now), run(0, 1, now), due(0, now)} {
				before := b.state()
				a := c.do(b.x)
				if a.errno != api.OK && (!a.same(answer{errno: a.errno}) || b.state() != before) {
					t.Fatalf("%d: %s: %#v", n, c.what, a)
				}
			}
		}
	}
}

// R1: all numbers, together.
func TestWildArguments(t *testing.T) {
	t.Parallel()
	image := faulty(t, fault{events: 99})
	numbers := []int{least, least + 1, -lastID, -lastTime, -1, 0, 1, 2, 15, 16, 17, 120, 150, 160, lastTime - 1, lastTime, lastTime + 1, lastID, lastID + 1, most - 1, most}
	b := image.twin(t)
	for _, retain := range numbers {
		for _, now := range numbers {
			b.quick(due(retain, now))
			for _, count := range numbers {
				b.quick(run(retain, count, now))
			}
		}
		b.look("behind all")
		b = image.twin(t)
	}
}
