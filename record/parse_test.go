package record_test

import (
	"math/rand"
	"strings"
	"testing"

	"latchkey/api"
	"latchkey/record"
)

const letters = "cftakehmxs"

// R2: every pair with one byte less or more is that of none, or of the other one whose it is.
func wantCuts[R any](t *testing.T, k kind[R], records []R) {
	t.Helper()
	for _, p := range pairsOf(k, records) {
		for _, q := range cuts(p) {
			k.wantWhole(t, "cut", q)
		}
		for n := range len(p.Value) {
			k.wantForm(t, "its beginning", api.Pair{Key: p.Key, Value: p.Value[:n]})
		}
		for n := range len(p.Key) - 1 {
			k.wantWhole(t, "its key's beginning", api.Pair{Key: p.Key[:n], Value: p.Value})
		}
		k.wantForm(t, "one byte more", api.Pair{Key: p.Key, Value: p.Value + "\x00"})
		k.wantForm(t, "a value far too long", api.Pair{Key: p.Key, Value: p.Value + many(70000, "\x00")})
		k.wantForm(t, "a key far too long", api.Pair{Key: p.Key + many(70000, "a"), Value: p.Value})
		k.wantForm(t, "key and value turned round", api.Pair{Key: p.Value, Value: p.Key})
		k.wantForm(t, "one text", api.Pair{Key: p.Key + p.Value})
		k.wantForm(t, "no key", api.Pair{Value: p.Key + p.Value})
	}
	k.wantForm(t, "nothing", api.Pair{})
}

func TestCutPairs(t *testing.T) {
	wantCuts(t, clients(), someClients())
	wantCuts(t, families(), someFamilies())
	wantCuts(t, tokens(), someTokens())
	wantCuts(t, codes(), someCodes())
	wantCuts(t, keys(), someKeys())
	wantCuts(t, events(), someEvents())
	wantCuts(t, chains(), someChains())
}

// R2: of all kinds but clients, whose name is as long as its key, each key has its length.
func TestKeyLengths(t *testing.T) {
	for _, p := range somePairs() {
		if p.Key[0] == 'c' {
			continue
		}
		for _, q := range []api.Pair{{Key: p.Key + "\x00", Value: p.Value}, {Key: p.Key[:len(p.Key)-1], Value: p.Value}, {Key: p.Key[1:], Value: p.Value}, {Key: p.Key[:1] + p.Key, Value: p.Value}} {
			if n := takers(q); n != "" {
				t.Errorf("%q is taken by %s", q, n)
			}
		}
	}
}

// R2: each byte of a pair turned to each other one: the record whose pair that is, or none.
func wantTurned[R any](t *testing.T, k kind[R], records []R) {
	t.Helper()
	taken, refused := 0, 0
	for _, p := range pairsOf(k, records) {
		eachTurned(p, func(q api.Pair) {
			if t.Failed() {
				return
			}
			if k.wantWhole(t, "turned", q) {
				taken++
			} else {
				refused++
			}
			if q.Key[0] != p.Key[0] {
				k.wantForm(t, "another letter", q)
			}
		})
	}
	if taken < 255 || refused < 255 {
		t.Errorf("%s: %d taken, %d refused", k.what, taken, refused)
	}
}

func TestTurnedPairs(t *testing.T) {
	wantTurned(t, clients(), someClients())
	wantTurned(t, families(), someFamilies())
	wantTurned(t, tokens(), someTokens())
	wantTurned(t, codes(), someCodes())
	wantTurned(t, keys(), someKeys())
	wantTurned(t, events(), someEvents())
	wantTurned(t, chains(), someChains())
}

// R2: a pair with another kind's letter is that of no record of its own kind, nor of that one.
func TestOtherLetters(t *testing.T) {
	for _, p := range append(somePairs(), someEntries()...) {
		for _, letter := range letters {
			q := api.Pair{Key: string(letter) + p.Key[1:], Value: p.Value}
			if q != p && takers(q) != "" {
				t.Errorf("%q is taken by %s", q, takers(q))
			}
		}
	}
}

// takers is the letters of all calls that take a pair.
func takers(p api.Pair) string {
	var all strings.Builder
	take := func(letter string, e api.Errno) {
		if e == api.OK {
			all.WriteString(letter)
		}
	}
	_, e := record.ParseClient(p)
	take("c", e)
	_, e = record.ParseFamily(p)
	take("f", e)
	_, e = record.ParseToken(p)
	take("t", e)
	_, e = record.ParseCode(p)
	take("a", e)
	_, e = record.ParseKey(p)
	take("k", e)
	_, e = record.ParseEvent(p)
	take("e", e)
	_, e = record.ParseChain(p)
	take("h", e)
	letter, _, _, _, e := record.ParseIndex(p)
	take(letter, e)
	return all.String()
}

// withScope is the pairs of a client, a family and a code, with a text in the place of the scope.
func withScope(text string) []api.Pair {
	c, f, a := someClients()[1], usualFamily(), usualCode()
	c.Scope, f.Scope, a.Scope = []string{"sc"}, []string{"sc"}, []string{"sc"}
	var l []api.Pair
	for _, p := range []api.Pair{pairsOf(clients(), []api.Client{c})[0], pairsOf(families(), []api.Family{f})[0], pairsOf(codes(), []api.Code{a})[0]} {
		head, tail, found := strings.Cut(p.Value, "\x02sc")
		if !found {
			panic("the test is wrong")
		}
		l = append(l, api.Pair{Key: p.Key, Value: head + short(text) + tail})
	}
	return l
}

// R2: a text of a scope that Print would not print is none.
func TestScopeTexts(t *testing.T) {
	for _, text := range []string{"b a", "a a", "a b a", "a a b", "a  b", " a", "a ", " ", "A", "a,b", "a\x00b", "é", many(17, "a"), "a b c d e f g h i", strings.Join(fullScope(61), " "), strings.Join(fullScope(67), " "), many(100, "a a ")[:255]} {
		for _, p := range withScope(text) {
			if n := takers(p); n != "" {
				t.Errorf("the scope %q: %q is taken by %s", text, p, n)
			}
		}
	}
	for _, text := range []string{"", "a", "a b", "b", "a aa b", "a b c d e f g h", many(16, "a"), strings.Join(eight(), " "), strings.Join(fullScope(60), " ")} {
		for _, p := range withScope(text) {
			if n := takers(p); n != p.Key[:1] {
				t.Errorf("the scope %q: %q is taken by %q", text, p, n)
			}
		}
	}
}

// put is a text with another one in it, from a place on.
func put(s string, at int, in string) string { return s[:at] + in + s[at+len(in):] }

// R2: a client's flags are 0 to 3.
func TestFlags(t *testing.T) {
	open, closed := pairsOf(clients(), someClients()[4:5])[0], pairsOf(clients(), someClients()[1:2])[0]
	for flags := range 256 {
		p, q := open, closed
		p.Value, q.Value = put(p.Value, 0, by(1, flags)), put(q.Value, 0, by(1, flags))
		c, e := record.ParseClient(p)
		if right := flags == 1 || flags == 3; right != (e == api.OK) || c.Public != right || c.Off != (flags == 3) {
			t.Errorf("flags %d, no secret: %#v, %d", flags, c, e)
		}
		c, e = record.ParseClient(q)
		if right := flags == 0 || flags == 2; right != (e == api.OK) || c.Public || c.Off != (flags == 2) {
			t.Errorf("flags %d, with a secret: %#v, %d", flags, c, e)
		}
	}
}

// R2: the small numbers of a family, a token, a code and an event.
func TestSmallNumbers(t *testing.T) {
	for n := range 256 {
		f := pairsOf(families(), someFamilies()[4:5])[0]
		f.Value = put(f.Value, len(f.Value)-15, by(1, n))
		if got, e := record.ParseFamily(f); (e == api.OK) != between(n, 2, 4) || e == api.OK && got.State != n {
			t.Errorf("an ended family, state %d: %#v, %d", n, got, e)
		}
		f = pairsOf(families(), someFamilies()[:1])[0]
		f.Value = put(f.Value, len(f.Value)-15, by(1, n))
		if got, e := record.ParseFamily(f); (e == api.OK) != (n == 1) {
			t.Errorf("an active family, state %d: %#v, %d", n, got, e)
		}
		for spent, k := range []api.Token{someTokens()[1], someTokens()[0]} {
			p := pairsOf(tokens(), []api.Token{k})[0]
			p.Value = put(p.Value, 50, by(1, n))
			if got, e := record.ParseToken(p); (e == api.OK) != (n == spent) {
				t.Errorf("a token, spent %d, turned to %d: %#v, %d", spent, n, got, e)
			}
		}
		for at, c := range []api.Code{someCodes()[1], someCodes()[0]} {
			p := pairsOf(codes(), []api.Code{c})[0]
			p.Value = put(p.Value, len(p.Value)-9, by(1, n))
			if got, e := record.ParseCode(p); (e == api.OK) != (n == at+1) {
				t.Errorf("a code of state %d, turned to %d: %#v, %d", at+1, n, got, e)
			}
		}
		p := pairsOf(events(), someEvents()[:1])[0]
		p.Value = put(p.Value, 6, by(1, n))
		if got, e := record.ParseEvent(p); (e == api.OK) != between(n, 1, 9) || e == api.OK && got.Kind != n {
			t.Errorf("an event, kind %d: %#v, %d", n, got, e)
		}
	}
}

// wantNumber is that the number which stands at a place of a record's pair (key and value as one text), by so many bytes, may be from the least to the most, and nothing else.
func wantNumber[R any](t *testing.T, k kind[R], r R, at, size, least, most int) {
	t.Helper()
	p := pairsOf(k, []R{r})[0]
	all, cut := p.Key+p.Value, len(p.Key)
	turned := func(s string) api.Pair {
		text := put(all, at, s)
		return api.Pair{Key: text[:cut], Value: text[cut:]}
	}
	for _, n := range []int{least, most} {
		if !k.wantWhole(t, "a number", turned(by(size, n))) {
			t.Errorf("%s: the number %d at %d is refused", k.what, n, at)
		}
	}
	if least > 0 {
		k.wantForm(t, "a number too small", turned(by(size, least-1)))
	}
	k.wantForm(t, "a number too great", turned(by(size, most+1)))
	k.wantForm(t, "the highest bit", turned("\x80"+many(size-1, "\x00")))
	k.wantForm(t, "the highest bit beside the number", turned("\x80"+by(size, most)[1:]))
	k.wantForm(t, "all bits", turned(many(size, "\xff")))
}

// R2: numbers one below and one above what may be, and those whose highest bit is set.
func TestNumbersInPairs(t *testing.T) {
	c := usualClient() // c, 3, flags, 33, 33: until at 71, the scope's 10, four times
	wantNumber(t, clients(), c, 71, 6, 0, lastTime)
	wantNumber(t, clients(), c, 87, 6, 1, lastTime)
	wantNumber(t, clients(), c, 93, 6, 1, lastTime)
	wantNumber(t, clients(), c, 99, 6, 0, lastTime)
	wantNumber(t, clients(), c, 105, 6, 1, lastTime)
	f := someFamilies()[4] // f, 8, 4, 4, 5: created at 22
	wantNumber(t, families(), f, 1, 8, 1, lastID)
	wantNumber(t, families(), f, 22, 6, 0, f.Used)
	wantNumber(t, families(), f, 28, 6, f.Created, f.Ended)
	wantNumber(t, families(), f, 34, 6, 1, lastTime)
	wantNumber(t, families(), f, 40, 6, 1, lastTime)
	wantNumber(t, families(), f, 46, 6, 0, lastTime)
	wantNumber(t, families(), f, 52, 4, 1, lastGen)
	wantNumber(t, families(), f, 56, 8, 1, lastID)
	wantNumber(t, families(), f, 64, 1, 2, 4)
	wantNumber(t, families(), f, 65, 6, f.Used, lastTime)
	wantNumber(t, families(), f, 71, 8, 0, lastID)
	s := usualToken() // t, 8, family, gen, 32
	wantNumber(t, tokens(), s, 1, 8, 1, lastID)
	wantNumber(t, tokens(), s, 9, 8, 1, lastID)
	wantNumber(t, tokens(), s, 17, 4, 1, lastGen)
	wantNumber(t, tokens(), s, 53, 6, 0, s.At)
	wantNumber(t, tokens(), s, 60, 6, s.Minted, lastTime)
	wantNumber(t, tokens(), s, 66, 8, 1, lastID)
	a := usualCode() // a, 8, 4, 4, 5, 64
	wantNumber(t, codes(), a, 1, 8, 1, lastID)
	wantNumber(t, codes(), a, 86, 6, 0, lastTime)
	wantNumber(t, codes(), a, 93, 8, 1, lastID)
	k := api.Key{Number: 7, Secret: many(24, "s"), From: 50, Until: 60}
	wantNumber(t, keys(), k, 1, 4, 1, lastGen)
	wantNumber(t, keys(), k, 29, 6, 0, 60)
	wantNumber(t, keys(), k, 35, 6, 50, lastTime)
	e := usualEvent()
	wantNumber(t, events(), e, 1, 8, 1, lastID)
	wantNumber(t, events(), e, 9, 6, 0, lastTime)
	wantNumber(t, events(), e, 15, 1, 1, 9)
	wantNumber(t, events(), e, 16, 8, 0, lastID)
	h := api.Chain{Base: 100, Next: 110, BaseHash: digest(1), NextHash: digest(2)}
	wantNumber(t, chains(), h, 1, 8, 77, 109)
	wantNumber(t, chains(), h, 9, 8, 101, 133)
}

// R2: lengths of short texts that are not those of what may stand there.
func TestTextsInPairs(t *testing.T) {
	spans := by(6, 1) + by(6, 1) + by(6, 0) + by(6, 1)
	for _, c := range []struct {
		hash, old string
		until     int
		right     bool
	}{
		{many(32, "h"), "", 0, true}, {many(32, "h"), many(32, "o"), 0, true}, {many(32, "h"), many(32, "o"), 5, true},
		{many(31, "h"), "", 0, false}, {many(33, "h"), "", 0, false}, {"", "", 0, false}, {"", many(32, "o"), 0, false},
		{many(32, "h"), many(31, "o"), 5, false}, {many(32, "h"), many(33, "o"), 5, false}, {many(32, "h"), "", 5, false}, {many(32, "h"), "o", 0, false},
	} {
		p := api.Pair{Key: "capp", Value: "\x00" + short(c.hash) + short(c.old) + by(6, c.until) + "\x00" + spans}
		if got, e := record.ParseClient(p); (e == api.OK) != c.right {
			t.Errorf("%q: %#v, %d", p, got, e)
		}
	}
	for _, secret := range []string{"", "s", many(23, "s"), many(25, "s")} {
		p := api.Pair{Key: "t" + by(8, 4), Value: by(8, 3) + by(4, 1) + many(32, "x") + by(6, 100) + "\x01" + by(6, 110) + by(8, 5) + short(secret)}
		tokens().wantForm(t, "a secret that is none", p)
	}
	for _, name := range []string{"", "A", "a b", "a\x00", many(17, "a"), many(255, "a")} {
		tail := "\x00" + by(6, 100) + by(6, 100) + by(6, 50) + by(6, 120) + by(6, 10) + by(4, 1) + by(8, 4) + "\x01" + by(6, 0) + by(8, 0)
		families().wantForm(t, "a client that is none", api.Pair{Key: "f" + by(8, 3), Value: short(name) + short("ann") + tail})
		families().wantForm(t, "a subject that is none", api.Pair{Key: "f" + by(8, 3), Value: short("app") + short(name) + tail})
		tail = "\x00" + many(64, "x") + by(6, 9) + "\x01" + by(8, 0)
		codes().wantForm(t, "a client that is none", api.Pair{Key: "a" + by(8, 3), Value: short(name) + short("ann") + tail})
		codes().wantForm(t, "a subject that is none", api.Pair{Key: "a" + by(8, 3), Value: short("app") + short(name) + tail})
		clients().wantForm(t, "a name that is none", api.Pair{Key: "c" + name, Value: "\x01" + "\x00\x00" + by(6, 0) + "\x00" + spans})
		if name != "" {
			events().wantForm(t, "one that is none", api.Pair{Key: "e" + by(8, 3), Value: by(6, 1) + "\x01" + by(8, 0) + short(name)})
		}
	}
}

// R2 and P6: pairs of records, spoilt at random, and texts drawn at random.
func TestSpoiltPairs(t *testing.T) {
	r := rand.New(rand.NewSource(14))
	all := append(somePairs(), someEntries()...)
	for range 60000 {
		p := pick(r, all...)
		for range 1 + r.Intn(3) {
			p = spoiltPair(r, p)
		}
		if r.Intn(20) == 0 {
			p.Value = someBytes(r, 1+r.Intn(200))
		}
		clients().wantWhole(t, "spoilt", p)
		families().wantWhole(t, "spoilt", p)
		tokens().wantWhole(t, "spoilt", p)
		codes().wantWhole(t, "spoilt", p)
		keys().wantWhole(t, "spoilt", p)
		events().wantWhole(t, "spoilt", p)
		chains().wantWhole(t, "spoilt", p)
		if t.Failed() {
			return
		}
	}
}
