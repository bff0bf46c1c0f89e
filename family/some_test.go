package family_test

import (
	"math/rand"
	"reflect"
	"slices"

	"latchkey/api"
)

// pick is one of these.
func pick[T any](r *rand.Rand, l ...T) T { return l[r.Intn(len(l))] }

// someNumbers are those at which something begins or ends.
func someNumbers() []int {
	return []int{
		least, least + 1, -lastID, -lastTime, -2, -1, 0, 1, 2, 3, 4, 5, 6, 10, 50, 99, 100, 101, 110, 120, 150, 255, 256,
		lastGen - 1, lastGen, lastGen + 1, 1 << 32, lastTime - 1, lastTime, lastTime + 1, 2 * lastTime, lastID - 1, lastID, lastID + 1, most - 1, most,
	}
}

// somePlaces are numbers where an ID stands: -1, 0, 1, 2^62 and their neighbours among them.
func somePlaces() []int {
	return []int{least, least + 1, -lastID, -7, -1, 0, 1, 2, 7, 1 << 32, lastID - 1, lastID, lastID + 1, lastID + 7, most}
}

// someTimes are readings.
func someTimes() []int {
	return []int{least, -lastTime, -1, 0, 1, 99, 100, 101, lastTime - 1, lastTime, lastTime + 1, lastID, most}
}

// someTexts are names, digests, secrets, and texts that are nearly one.
func someTexts() []string {
	return []string{
		"", "a", "app", "-._09az", many(16, "z"), many(17, "z"), "App", "a b", "a\x00", "é", "\xff", " ",
		many(23, "s"), many(24, "s"), many(25, "s"), many(31, "h"), many(32, "h"), many(33, "h"), many(24, "\x00"), many(32, "\xff"), many(1000, "x"),
	}
}

// eight is a scope of eight names whose text has 60 bytes.
func eight() []string {
	return []string{"a", "b", "c", "d", "e", many(16, "f"), many(16, "g"), many(16, "h")}
}

// rightScopes are scopes.
func rightScopes() [][]string {
	return [][]string{nil, {}, {"read"}, {"a", "b"}, {many(16, "n")}, {"-", ".", "0", "_", "a"}, {"a", "b", "c", "d", "e", "f", "g", "h"}, eight()}
}

// wrongScopes are lists that are nearly one.
func wrongScopes() [][]string {
	long := eight()
	long[7] = long[7][:15] + "ii"
	more := eight()
	more[4] = "ee"
	return [][]string{{"b", "a"}, {"a", "a"}, {""}, {"a", ""}, {"A"}, {"a b"}, {"é"}, {many(17, "n")}, {"a", "b", "c", "d", "e", "f", "g", "h", "i"}, long, more, make([]string, 1000)}
}

// wrongNames are texts that are no name.
func wrongNames() []string {
	l := []string{"", "App", "APP", " ", "a ", " a", "a b", "é", "\x00", many(17, "a"), many(300, "b"), many(1<<16, "c")}
	for b := range 256 {
		if one := string([]byte{'a', byte(b)}); !isName(one) {
			l = append(l, one)
		}
	}
	return l
}

// rightNames are names.
func rightNames() []string {
	return []string{"a", "z", "0", "9", "-", "_", ".", "ann", "a-b_c.9", many(16, "a"), many(16, ".")}
}

// someClients may be, of all kinds.
func someClients() []api.Client {
	digest := many(32, "d")
	return []api.Client{
		app(),
		{Name: "a", Public: true, Off: true, Idle: 1, Absolute: 1, Grace: 0, Life: 1},
		{Name: many(16, "z"), Hash: digest, Scope: eight(), Idle: lastTime, Absolute: lastTime, Grace: lastTime, Life: lastTime},
		{Name: "web.1", Hash: digest, Old: many(32, "\x00"), Until: 0, Off: true, Idle: 7, Absolute: 3, Grace: 5, Life: lastTime},
		{Name: "_", Hash: many(32, "\xff"), Old: digest, Until: lastTime, Scope: []string{"read"}, Idle: 1, Absolute: lastTime, Grace: 1, Life: 9},
	}
}

// wrongClients may not be: each for one thing alone.
func wrongClients() []api.Client {
	var l []api.Client
	wrong := func(do func(c *api.Client)) {
		for _, c := range []api.Client{app(), {Name: "web", Hash: many(32, "d"), Old: many(32, "e"), Until: 7, Idle: 5, Absolute: 6, Grace: 7, Life: 8}} {
			if do(&c); !clientOK(c) {
				l = append(l, c)
			}
		}
	}
	for _, s := range append(wrongNames(), many(31, "d"), many(33, "d")) {
		wrong(func(c *api.Client) { c.Name = s })
		wrong(func(c *api.Client) { c.Hash = s })
		wrong(func(c *api.Client) { c.Old = s })
	}
	for _, n := range someNumbers() {
		wrong(func(c *api.Client) { c.Idle = n })
		wrong(func(c *api.Client) { c.Absolute = n })
		wrong(func(c *api.Client) { c.Grace = n })
		wrong(func(c *api.Client) { c.Life = n })
		wrong(func(c *api.Client) { c.Until = n })
	}
	for _, s := range wrongScopes() {
		wrong(func(c *api.Client) { c.Scope = s })
	}
	wrong(func(c *api.Client) { c.Public = !c.Public })
	return append(l, api.Client{})
}

// someFamilies may be, of each state, and at the edges.
func someFamilies() []api.Family {
	f := api.Family{ID: 1, Client: "app", Subject: "ann", Scope: []string{"read"}, Created: 100, Used: 110, Idle: 50, Absolute: 120, Grace: 10, Gen: 2, Token: 3, State: api.Active, Code: 9}
	l := []api.Family{
		f,
		{ID: 1, Client: "-", Subject: "0", Idle: 1, Absolute: 1, Gen: 1, Token: 1, State: api.Active},
		{ID: lastID, Client: many(16, "z"), Subject: many(16, "z"), Scope: eight(), Created: lastTime, Used: lastTime, Idle: lastTime, Absolute: lastTime, Grace: lastTime, Gen: lastGen, Token: lastID, State: api.Active, Code: lastID},
		{ID: 7, Client: "app", Subject: "bob", Scope: []string{"a", "b"}, Created: 0, Used: 200, Idle: 3, Absolute: lastTime, Grace: 5, Gen: 5, Token: 12, State: api.Active},
		{ID: 7, Client: "app", Subject: "bob", Created: lastTime - 3, Used: lastTime - 2, Idle: 1, Absolute: 9, Grace: 2, Gen: lastGen - 1, Token: 12, State: api.Active},
	}
	for state := api.Revoked; state <= api.Expired; state++ {
		g := f
		g.State, g.Ended = state, 110+10*state
		l = append(l, g)
	}
	g := f
	g.State, g.Ended = api.Revoked, lastTime
	l = append(l, g)
	g.Created, g.Used, g.Ended = 0, 0, 0
	return append(l, g)
}

// ofFamily are tokens that belong to a family: its current one, spent ones, and such as fit no place.
func ofFamily(f api.Family) []api.Token {
	now := api.Token{ID: f.Token, Family: f.ID, Gen: f.Gen, Hash: many(32, "h"), Minted: f.Used}
	later, older, elder := now, now, now
	later.Minted, older.ID, elder.Gen = lastTime, f.Token%9+1, f.Gen%9+1
	l := []api.Token{now, later, older, elder}
	for _, at := range []int{f.Created, f.Used, min(f.Used+1, lastTime), lastTime} {
		spent := api.Token{ID: f.Token%9 + 1, Family: f.ID, Gen: max(f.Gen-1, 1), Hash: many(32, "\x00"), Minted: f.Created, Spent: true, At: at, Next: f.Token, Secret: secret("n")}
		both := spent
		both.ID, both.Gen = f.Token, f.Gen
		l = append(l, spent, both)
	}
	return l
}

// nearTimes are the readings around which something becomes of a family and a token.
func nearTimes(f api.Family, k api.Token) []int {
	var l []int
	for _, n := range []int{f.Created, f.Used, end(f), sum(f.Created, f.Absolute), sum(f.Used, f.Idle), k.Minted, k.At, sum(k.At, f.Grace), f.Ended} {
		l = append(l, n-1, n, n+1)
	}
	l = append(l, someTimes()...)
	slices.Sort(l)
	return slices.Compact(l)
}

// poolOf is what may be tried in a field of that type.
func poolOf(f reflect.Type) []reflect.Value {
	switch f.Kind() {
	case reflect.Int:
		return values(someNumbers())
	case reflect.String:
		return values(someTexts())
	case reflect.Bool:
		return values([]bool{false, true})
	}
	return values(append(rightScopes(), wrongScopes()...))
}

func values[T any](l []T) []reflect.Value {
	var all []reflect.Value
	for _, x := range l {
		all = append(all, reflect.ValueOf(x))
	}
	return all
}

// eachField does something with a record in whose each field, alone, stands each of what may be tried.
func eachField[R any](base R, do func(record R)) {
	for n := range reflect.TypeFor[R]().NumField() {
		other := base
		field := reflect.ValueOf(&other).Elem().Field(n)
		for _, x := range poolOf(field.Type()) {
			field.Set(x)
			do(other)
		}
	}
}

// spoilt is a record with so many fields in which something stands that was drawn from what may be tried.
func spoilt[R any](r *rand.Rand, base R, fields int) R {
	v := reflect.ValueOf(&base).Elem()
	for range fields {
		field := v.Field(r.Intn(v.NumField()))
		field.Set(pick(r, poolOf(field.Type())...))
	}
	return base
}

// someBytes are drawn.
func someBytes(r *rand.Rand, size int) string {
	b := make([]byte, size)
	r.Read(b)
	return string(b)
}

// upTo is a number from 0 on, of few bits or of many.
func upTo(r *rand.Rand, most int) int { return r.Intn(1+most>>r.Intn(40)) % (most + 1) }

// drawnBirth is one that Begin takes.
func drawnBirth(r *rand.Rand) birth {
	c := pick(r, someClients()...)
	c.Idle, c.Absolute, c.Grace = 1+upTo(r, lastTime-1), 1+upTo(r, lastTime-1), upTo(r, lastTime)
	return birth{
		id: 1 + upTo(r, lastID-1), first: 1 + upTo(r, lastID-1), client: c, subject: pick(r, rightNames()...), secret: someBytes(r, 24),
		scope: pick(r, rightScopes()...), now: pick(r, upTo(r, lastTime), pick(r, someTimes()...)),
	}
}
