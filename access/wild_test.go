package access_test

import (
	"slices"
	"testing"

	"latchkey/access"
	"latchkey/api"
	"latchkey/table"
)

func layChain(base, next int) lay {
	return func(x *table.Table) api.Errno {
		return x.PutChain(api.Chain{Base: base, Next: next, BaseHash: digestOf("a"), NextHash: digestOf("b")})
	}
}

func layEvent(number int) lay {
	return func(x *table.Table) api.Errno {
		return x.PutEvent(api.Event{Number: number, Kind: api.EventKey})
	}
}

// R1: tables whose records do not belong together, on which somebody has committed them: each call ends, none panics, and what is refused changes nothing.
func TestWildTables(t *testing.T) {
	many := func(untils ...int) []lay { return layKeys(untils...) }
	ahead := layKey(api.Key{Number: 7, Secret: secret(7), From: 500, Until: lastTime})
	for n, l := range [][]lay{
		many(50, 50, 50, 50, 50, 50, 50, 50), many(50, 200, 50, 200, 50, 200, lastTime), many(lastTime, lastTime, lastTime, lastTime, lastTime, lastTime),
		{ahead}, append(many(50, lastTime), ahead), {layKey(api.Key{Number: 7, Secret: secret(7), From: lastTime, Until: lastTime})},
		{layChain(3, 36)}, {layChain(0, 33)}, {layChain(0, 33), layEvent(9)}, {layChain(lastID-1, lastID+1)}, {layChain(lastID, lastID+1)}, {layChain(5, 6), layEvent(1)}, {layEvent(1)}, {layEvent(lastID)},
		append(many(50, 200, lastTime), layChain(3, 36), layEvent(4)),
		{layFamily(family(1)), layKey(three())}, // begun ahead of the time
	} {
		for _, now := range []int{least, 0, 30, 50, 100, 500, 501, lastTime, most} {
			for _, keep := range []int{least, 0, 7, most} {
				b := founded(t, 64, 0, l...)
				before, told := b.state(), toldOf(t, b.x)
				k, errno := access.NewKey(b.x, secret(9), keep, now)
				if after := b.state(); (errno == api.OK) != (k > 0) || (errno == api.OK) != (after.generation == before.generation+1) || errno != api.OK && after != before {
					t.Fatalf("%d: NewKey by %d at %d: %d, %d", n, keep, now, k, errno)
				}
				if keys, _ := b.x.Keys(); errno != api.OK && !slices.Equal(keys, told.keys) {
					t.Fatalf("%d: NewKey by %d at %d: %d: the keys are %v", n, keep, now, errno, keys)
				}
				for _, s := range []string{example, "", tokenOf(7, secret(7), "home", claims())} {
					before := b.state()
					i, errno := access.Worth(b.x, "home", s, now)
					if errno != api.OK || b.state() != before || i.Active && s == "" {
						t.Fatalf("%d: Worth: %#v, %d", n, i, errno)
					}
				}
			}
		}
	}
}

// A5: more keys than there may be, of which enough are over: all of these go, and one comes.
func TestWildManyKeys(t *testing.T) {
	b := founded(t, 64, 0, layKeys(50, 100, 60, 200, 100, lastTime, 70, 99, 101)...)
	if n, errno := access.NewKey(b.x, secret(9), 3, 100); n != 10 || errno != api.OK {
		t.Fatalf("%d, %d", n, errno)
	}
	key := func(n, until int) api.Key { return api.Key{Number: n, Secret: secret(n), Until: until} }
	wantKeys(t, b, key(4, 200), key(6, 103), key(9, 101), api.Key{Number: 10, Secret: secret(9), From: 100, Until: lastTime})
	b = founded(t, 64, 0, layKeys(50, 100, 60, 200, 102, lastTime, 70, 99, 101)...)
	if n, errno := access.NewKey(b.x, secret(9), 3, 100); n != 0 || errno != api.ErrAccessMany {
		t.Fatalf("%d, %d", n, errno)
	}
}

// R1: all numbers together.
func TestWildArguments(t *testing.T) {
	numbers := []int{least, least + 1, -lastID, -lastTime, -1, 0, 1, 2, 20, 40, lastTime - 1, lastTime, lastTime + 1, lastNumber, lastNumber + 1, lastID, lastID + 1, most - 1, most}
	image := homely(t)
	for _, keep := range numbers {
		for _, now := range numbers {
			b := image.twin(t)
			b.newKey(secret(1), keep, now)
			b.worth("home", example, now)
		}
	}
	for _, a := range numbers {
		for _, c := range numbers {
			k, claimed := three(), claims()
			k.Number, k.From, k.Until = a, c, a
			claimed.Family, claimed.Number, claimed.Issued, claimed.End = a, c, c, a
			switch {
			case !isKeyOK(k):
				wantNoSign(t, k, "home", claimed, api.ErrArg)
			case !isClaimsOK(claimed):
				wantNoSign(t, k, "home", claimed, api.ErrAccessClaim)
			default:
				wantSign(t, k, "home", claimed)
			}
			wantVerify(t, []api.Key{k, three()}, "home", example, c)
			wantVerify(t, []api.Key{{Number: 3, Secret: three().Secret, From: a, Until: c}}, "home", example, a)
		}
	}
}
