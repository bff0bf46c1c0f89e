package record_test

import (
	"math"
	"math/rand"
	"testing"

	"latchkey/api"
)

// numbers are changes of one field to each of these.
func numbers[R any](what string, place func(r *R) *int, l ...int) []change[R] {
	var all []change[R]
	for _, n := range l {
		all = append(all, change[R]{what, func(r *R) { *place(r) = n }})
	}
	return all
}

func texts[R any](what string, place func(r *R) *string, l ...string) []change[R] {
	var all []change[R]
	for _, s := range l {
		all = append(all, change[R]{what, func(r *R) { *place(r) = s }})
	}
	return all
}

func lists[R any](what string, place func(r *R) *[]string, l ...[]string) []change[R] {
	var all []change[R]
	for _, list := range l {
		all = append(all, change[R]{what, func(r *R) { *place(r) = list }})
	}
	return all
}

// wantBounds is that a field may be from the least to the most, and neither below nor above.
func (k kind[R]) wantBounds(t *testing.T, r R, what string, place func(r *R) *int, least, most int) {
	t.Helper()
	k.wantTaken(t, r, numbers(what, place, least, least+1, most-1, most)...)
	k.wantRefused(t, r, numbers(what, place, least-1, most+1, -1, math.MinInt, math.MaxInt)...)
}

// wantNames is that a field may be a name, and nothing else.
func (k kind[R]) wantNames(t *testing.T, r R, what string, place func(r *R) *string) {
	t.Helper()
	k.wantTaken(t, r, texts(what, place, "a", "z", "0", "9", "-", "_", ".", "az09-_.", many(16, "a"))...)
	k.wantRefused(t, r, texts(what, place, "A", "Z", "a b", " ", "a ", "\x00", "a\x00", "/", ":", "`", "{", "é", "\xff", many(17, "a"), many(256, "a"), many(257, "a"))...)
}

// wantScopes is that a field may be a scope, and no other list.
func (k kind[R]) wantScopes(t *testing.T, r R, place func(r *R) *[]string) {
	t.Helper()
	k.wantTaken(t, r, lists("scope", place, nil, []string{}, []string{"a"}, []string{"a", "aa", "b"}, []string{"a", "b", "c", "d", "e", "f", "g", "h"}, eight(), fullScope(60), []string{many(16, "a")})...)
	k.wantRefused(t, r, lists("scope", place, []string{""}, []string{"b", "a"}, []string{"a", "a"}, []string{"A"}, []string{"a b"}, []string{"a", "b", "c", "d", "e", "f", "g", "h", "i"}, fullScope(61), []string{many(17, "a")}, make([]string, 300))...)
}

// wantLength is that a field may be any text of so many bytes, and none of another length.
func (k kind[R]) wantLength(t *testing.T, r R, what string, place func(r *R) *string, n int) {
	t.Helper()
	k.wantTaken(t, r, texts(what, place, many(n, "\x00"), many(n, "\xff"), many(n, "a"), digest(20)[:n])...)
	k.wantRefused(t, r, texts(what, place, many(n-1, "a"), many(n+1, "a"), "a", many(n+256, "a"), many(2*n, "a"))...)
}

// R1: of a client.
func TestClientFields(t *testing.T) {
	k, c := clients(), usualClient()
	k.wantNames(t, c, "name", func(c *api.Client) *string { return &c.Name })
	k.wantField(t, "no name", api.Client{Public: true, Idle: 1, Absolute: 1, Life: 1})
	k.wantScopes(t, c, func(c *api.Client) *[]string { return &c.Scope })
	k.wantLength(t, c, "hash", func(c *api.Client) *string { return &c.Hash }, 32)
	k.wantLength(t, c, "old", func(c *api.Client) *string { return &c.Old }, 32)
	k.wantBounds(t, c, "until", func(c *api.Client) *int { return &c.Until }, 0, lastTime)
	k.wantBounds(t, c, "idle", func(c *api.Client) *int { return &c.Idle }, 1, lastTime)
	k.wantBounds(t, c, "absolute", func(c *api.Client) *int { return &c.Absolute }, 1, lastTime)
	k.wantBounds(t, c, "grace", func(c *api.Client) *int { return &c.Grace }, 0, lastTime)
	k.wantBounds(t, c, "life", func(c *api.Client) *int { return &c.Life }, 1, lastTime)
}

// R1: what a client's secrets hang on.
func TestClientSecrets(t *testing.T) {
	k, c := clients(), usualClient()
	k.wantRefused(t, c,
		change[api.Client]{"public, with a secret and an old one", func(c *api.Client) { c.Public = true }},
		change[api.Client]{"no old one, but until", func(c *api.Client) { c.Old = "" }},
		change[api.Client]{"no hash", func(c *api.Client) { c.Hash = "" }},
		change[api.Client]{"no hash, no old one", func(c *api.Client) { c.Hash, c.Old, c.Until = "", "", 0 }},
		change[api.Client]{"public, with a hash", func(c *api.Client) { c.Public, c.Old, c.Until = true, "", 0 }},
		change[api.Client]{"public, with an old one", func(c *api.Client) { c.Public, c.Hash, c.Until = true, "", 0 }},
		change[api.Client]{"public, with until", func(c *api.Client) { c.Public, c.Hash, c.Old = true, "", "" }},
		change[api.Client]{"public, with until 1", func(c *api.Client) { c.Public, c.Hash, c.Old, c.Until = true, "", "", 1 }},
		change[api.Client]{"no old one, until 1", func(c *api.Client) { c.Old, c.Until = "", 1 }},
		change[api.Client]{"no old one, until below 0", func(c *api.Client) { c.Old, c.Until = "", -1 }},
	)
	k.wantTaken(t, c,
		change[api.Client]{"no old one", func(c *api.Client) { c.Old, c.Until = "", 0 }},
		change[api.Client]{"an old one until 0", func(c *api.Client) { c.Until = 0 }},
		change[api.Client]{"public", func(c *api.Client) { c.Public, c.Hash, c.Old, c.Until = true, "", "", 0 }},
		change[api.Client]{"public, off", func(c *api.Client) { c.Public, c.Off, c.Hash, c.Old, c.Until = true, true, "", "", 0 }},
		change[api.Client]{"off", func(c *api.Client) { c.Off = true }},
	)
}

// R1: of a family.
func TestFamilyFields(t *testing.T) {
	k, f := families(), usualFamily()
	k.wantBounds(t, f, "id", func(f *api.Family) *int { return &f.ID }, 1, lastID)
	k.wantNames(t, f, "client", func(f *api.Family) *string { return &f.Client })
	k.wantNames(t, f, "subject", func(f *api.Family) *string { return &f.Subject })
	k.wantRefused(t, f, texts("client", func(f *api.Family) *string { return &f.Client }, "")...)
	k.wantRefused(t, f, texts("subject", func(f *api.Family) *string { return &f.Subject }, "")...)
	k.wantScopes(t, f, func(f *api.Family) *[]string { return &f.Scope })
	k.wantBounds(t, f, "created", func(f *api.Family) *int { return &f.Created }, 0, 100)
	k.wantBounds(t, f, "used", func(f *api.Family) *int { return &f.Used }, 100, lastTime)
	k.wantBounds(t, f, "idle", func(f *api.Family) *int { return &f.Idle }, 1, lastTime)
	k.wantBounds(t, f, "absolute", func(f *api.Family) *int { return &f.Absolute }, 1, lastTime)
	k.wantBounds(t, f, "grace", func(f *api.Family) *int { return &f.Grace }, 0, lastTime)
	k.wantBounds(t, f, "gen", func(f *api.Family) *int { return &f.Gen }, 1, lastGen)
	k.wantBounds(t, f, "token", func(f *api.Family) *int { return &f.Token }, 1, lastID)
	k.wantBounds(t, f, "code", func(f *api.Family) *int { return &f.Code }, 0, lastID)
}

// R1: what a family's State, Used and Ended hang on.
func TestFamilyState(t *testing.T) {
	k, f := families(), usualFamily()
	ended := func(f *api.Family) *int { return &f.Ended }
	k.wantRefused(t, f, numbers("state", func(f *api.Family) *int { return &f.State }, math.MinInt, -1, 0, 5, 256, 257, math.MaxInt)...)
	k.wantRefused(t, f, numbers("active, ended", ended, -1, 1, 99, 100, 101, lastTime, math.MinInt)...)
	for state := api.Revoked; state <= api.Expired; state++ {
		f.State, f.Used, f.Ended = state, 130, 150
		k.wantBounds(t, f, "ended", ended, 130, lastTime)
		k.wantRefused(t, f, numbers("ended ahead", ended, 0, 100, 129)...)
		k.wantRefused(t, f, numbers("used behind", func(f *api.Family) *int { return &f.Used }, 99, 151)...)
		k.wantRefused(t, f, numbers("another state", func(f *api.Family) *int { return &f.State }, 0, 1, 5)...)
	}
	f.Created, f.Used, f.Ended = lastTime, lastTime, lastTime
	k.wantModel(t, "ended in the end", f)
	f.Created, f.Used, f.Ended = lastTime+1, lastTime+1, lastTime+1
	k.wantField(t, "ended behind the end", f)
	f.Created, f.Used, f.Ended = -1, -1, -1
	k.wantField(t, "ended ahead of all", f)
}

// R1: of a token.
func TestTokenFields(t *testing.T) {
	k, s := tokens(), usualToken()
	k.wantBounds(t, s, "id", func(s *api.Token) *int { return &s.ID }, 1, lastID)
	k.wantBounds(t, s, "family", func(s *api.Token) *int { return &s.Family }, 1, lastID)
	k.wantBounds(t, s, "gen", func(s *api.Token) *int { return &s.Gen }, 1, lastGen)
	k.wantLength(t, s, "hash", func(s *api.Token) *string { return &s.Hash }, 32)
	k.wantRefused(t, s, texts("hash", func(s *api.Token) *string { return &s.Hash }, "")...)
	k.wantBounds(t, s, "minted", func(s *api.Token) *int { return &s.Minted }, 0, 110)
	k.wantBounds(t, s, "at", func(s *api.Token) *int { return &s.At }, 100, lastTime)
	k.wantBounds(t, s, "next", func(s *api.Token) *int { return &s.Next }, 1, lastID)
	k.wantLength(t, s, "secret", func(s *api.Token) *string { return &s.Secret }, 24)
	k.wantRefused(t, s, texts("secret", func(s *api.Token) *string { return &s.Secret }, "")...)
}

// R1: what a token that is not Spent may not have.
func TestTokenNotSpent(t *testing.T) {
	k, s := tokens(), api.Token{ID: 4, Family: 3, Gen: 1, Hash: digest(4), Minted: 100}
	k.wantBounds(t, s, "minted", func(s *api.Token) *int { return &s.Minted }, 0, lastTime)
	k.wantRefused(t, s, numbers("at", func(s *api.Token) *int { return &s.At }, -1, 1, 100, 110)...)
	k.wantRefused(t, s, numbers("next", func(s *api.Token) *int { return &s.Next }, -1, 1, 5, lastID)...)
	k.wantRefused(t, s, texts("secret", func(s *api.Token) *string { return &s.Secret }, "s", many(24, "s"))...)
	k.wantRefused(t, s,
		change[api.Token]{"spent alone", func(s *api.Token) { s.Spent = true }},
		change[api.Token]{"all but spent", func(s *api.Token) { s.At, s.Next, s.Secret = 110, 5, many(24, "s") }},
	)
	k.wantTaken(t, s, change[api.Token]{"spent", func(s *api.Token) { s.Spent, s.At, s.Next, s.Secret = true, 100, 5, many(24, "s") }})
}

// R1: of a code.
func TestCodeFields(t *testing.T) {
	k, c := codes(), usualCode()
	k.wantBounds(t, c, "id", func(c *api.Code) *int { return &c.ID }, 1, lastID)
	k.wantNames(t, c, "client", func(c *api.Code) *string { return &c.Client })
	k.wantNames(t, c, "subject", func(c *api.Code) *string { return &c.Subject })
	k.wantRefused(t, c, texts("client", func(c *api.Code) *string { return &c.Client }, "")...)
	k.wantRefused(t, c, texts("subject", func(c *api.Code) *string { return &c.Subject }, "")...)
	k.wantScopes(t, c, func(c *api.Code) *[]string { return &c.Scope })
	k.wantLength(t, c, "hash", func(c *api.Code) *string { return &c.Hash }, 32)
	k.wantLength(t, c, "challenge", func(c *api.Code) *string { return &c.Challenge }, 32)
	k.wantRefused(t, c, texts("hash", func(c *api.Code) *string { return &c.Hash }, "")...)
	k.wantRefused(t, c, texts("challenge", func(c *api.Code) *string { return &c.Challenge }, "")...)
	k.wantRefused(t, c, change[api.Code]{"one digest's bytes in the other", func(c *api.Code) { c.Hash, c.Challenge = many(33, "a"), many(31, "a") }})
	k.wantBounds(t, c, "until", func(c *api.Code) *int { return &c.Until }, 0, lastTime)
	k.wantBounds(t, c, "family", func(c *api.Code) *int { return &c.Family }, 1, lastID)
	k.wantRefused(t, c, numbers("state", func(c *api.Code) *int { return &c.State }, math.MinInt, -1, 0, 1, 3, 4, 256, 258)...)
	c.State, c.Family = api.CodeFresh, 0
	k.wantRefused(t, c, numbers("family of a fresh one", func(c *api.Code) *int { return &c.Family }, -1, 1, 3, lastID)...)
	k.wantRefused(t, c, numbers("state", func(c *api.Code) *int { return &c.State }, 0, 2, 3)...)
}

// R1: of a key.
func TestKeyFields(t *testing.T) {
	k, s := keys(), api.Key{Number: 7, Secret: many(24, "s"), From: 50, Until: 60}
	k.wantBounds(t, s, "number", func(s *api.Key) *int { return &s.Number }, 1, lastGen)
	k.wantLength(t, s, "secret", func(s *api.Key) *string { return &s.Secret }, 24)
	k.wantRefused(t, s, texts("secret", func(s *api.Key) *string { return &s.Secret }, "")...)
	k.wantBounds(t, s, "from", func(s *api.Key) *int { return &s.From }, 0, 60)
	k.wantBounds(t, s, "until", func(s *api.Key) *int { return &s.Until }, 50, lastTime)
	k.wantField(t, "behind all times", api.Key{Number: 7, Secret: many(24, "s"), From: lastTime + 1, Until: lastTime + 1})
}

// R1: of an event.
func TestEventFields(t *testing.T) {
	k, e := events(), usualEvent()
	k.wantBounds(t, e, "number", func(e *api.Event) *int { return &e.Number }, 1, lastID)
	k.wantBounds(t, e, "time", func(e *api.Event) *int { return &e.Time }, 0, lastTime)
	k.wantBounds(t, e, "kind", func(e *api.Event) *int { return &e.Kind }, 1, 9)
	k.wantRefused(t, e, numbers("kind", func(e *api.Event) *int { return &e.Kind }, 255, 256, 257)...)
	k.wantBounds(t, e, "family", func(e *api.Event) *int { return &e.Family }, 0, lastID)
	k.wantNames(t, e, "who", func(e *api.Event) *string { return &e.Who })
	k.wantTaken(t, e, texts("who", func(e *api.Event) *string { return &e.Who }, "")...)
}

// R1: of the chain.
func TestChainFields(t *testing.T) {
	k, c := chains(), usualChain()
	next := func(c *api.Chain) *int { return &c.Next }
	for _, base := range []int{0, 1, 222, 223, 1 << 40, lastID - 33, lastID - 32} {
		c.Base, c.Next = base, base+1
		k.wantBounds(t, c, "next", next, base+1, base+33)
		k.wantRefused(t, c, numbers("next", next, base, base+34, base+35)...)
	}
	for _, base := range []int{lastID - 31, lastID - 2} {
		c.Base, c.Next = base, base+1
		k.wantBounds(t, c, "next", next, base+1, lastID+1)
	}
	c.Base, c.Next = lastID, lastID+1
	k.wantRefused(t, c, numbers("next", next, lastID, lastID+2, 0, 1, math.MinInt, math.MaxInt)...)
	c.Base, c.Next = 30, 34
	k.wantBounds(t, c, "base", func(c *api.Chain) *int { return &c.Base }, 1, 33)
	k.wantField(t, "far apart", api.Chain{Base: math.MaxInt, Next: math.MinInt, BaseHash: digest(1), NextHash: digest(1)})
	k.wantField(t, "ahead of 0", api.Chain{Base: -1, Next: 1, BaseHash: digest(1), NextHash: digest(1)})
	k.wantField(t, "behind the last one", api.Chain{Base: lastID + 1, Next: lastID + 2, BaseHash: digest(1), NextHash: digest(1)})
	k.wantLength(t, c, "base's", func(c *api.Chain) *string { return &c.BaseHash }, 32)
	k.wantLength(t, c, "next's", func(c *api.Chain) *string { return &c.NextHash }, 32)
	k.wantRefused(t, c, texts("base's", func(c *api.Chain) *string { return &c.BaseHash }, "")...)
	k.wantRefused(t, c, texts("next's", func(c *api.Chain) *string { return &c.NextHash }, "")...)
	k.wantRefused(t, c, change[api.Chain]{"one digest's bytes in the other", func(c *api.Chain) { c.BaseHash, c.NextHash = many(31, "a"), many(33, "a") }})
}

// R1 and R2: the zero records, and each that stands in some_test.go.
func wantSome[R any](t *testing.T, k kind[R], records []R) {
	t.Helper()
	var zero R
	k.wantField(t, "the zero one", zero)
	for _, r := range records {
		p, right := k.model(r)
		if !right {
			t.Fatalf("the test is wrong: %#v", r)
		}
		k.wantPair(t, "some", r, p)
	}
}

func TestSomeRecords(t *testing.T) {
	wantSome(t, clients(), someClients())
	wantSome(t, families(), someFamilies())
	wantSome(t, tokens(), someTokens())
	wantSome(t, codes(), someCodes())
	wantSome(t, keys(), someKeys())
	wantSome(t, events(), someEvents())
	wantSome(t, chains(), someChains())
}

// R1: each two fields at once, each at all numbers and texts at which something begins or ends.
func wantTwoFields[R any](t *testing.T, k kind[R], records ...R) {
	t.Helper()
	taken := 0
	for _, base := range records {
		eachTwoFields(base, func(r R) {
			if t.Failed() {
				return
			}
			if k.wantModel(t, "two fields", r); !t.Failed() {
				if _, right := k.model(r); right {
					taken++
				}
			}
		})
	}
	if taken < 100 {
		t.Errorf("%s: only %d may be", k.what, taken)
	}
}

func TestTwoFields(t *testing.T) {
	wantTwoFields(t, clients(), someClients()[1], someClients()[3])
	wantTwoFields(t, families(), someFamilies()[0], someFamilies()[4])
	wantTwoFields(t, tokens(), someTokens()[0], someTokens()[1])
	wantTwoFields(t, codes(), someCodes()[0], someCodes()[1])
	wantTwoFields(t, keys(), someKeys()[0])
	wantTwoFields(t, events(), someEvents()[0])
	wantTwoFields(t, chains(), someChains()[0], someChains()[5])
}

// R1: no call panics, whatever stands in all fields at once.
func wantDrawn[R any](t *testing.T, k kind[R], seed int64) {
	t.Helper()
	r := rand.New(rand.NewSource(seed))
	for range 3000 {
		if k.wantModel(t, "drawn", drawn[R](r)); t.Failed() {
			return
		}
	}
}

func TestDrawnFields(t *testing.T) {
	wantDrawn(t, clients(), 1)
	wantDrawn(t, families(), 2)
	wantDrawn(t, tokens(), 3)
	wantDrawn(t, codes(), 4)
	wantDrawn(t, keys(), 5)
	wantDrawn(t, events(), 6)
	wantDrawn(t, chains(), 7)
}
