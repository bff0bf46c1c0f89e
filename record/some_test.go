package record_test

import (
	"math/rand"
	"slices"

	"latchkey/api"
)

// Of each kind: one that is usual, and others that may be: with the least and with the greatest of every field.

func usualClient() api.Client {
	return api.Client{Name: "app", Hash: digest(2), Old: digest(3), Until: 77, Scope: []string{"list", "read"}, Idle: 50, Absolute: 120, Grace: 10, Life: 20}
}

func someClients() []api.Client {
	single := usualClient()
	single.Old, single.Until = "", 0
	off := usualClient()
	off.Off = true
	both := api.Client{Name: "9.-_", Public: true, Off: true, Scope: fullScope(60), Idle: 1, Absolute: lastTime, Grace: lastTime, Life: 256}
	return []api.Client{
		usualClient(), single, off, both,
		{Name: "-", Public: true, Idle: 1, Absolute: 1, Life: 1},
		{Name: "a", Hash: many(32, "\x00"), Idle: 1, Absolute: 1, Life: 1},
		{Name: "a", Hash: many(32, "\x00"), Old: many(32, "\x00"), Idle: 1, Absolute: 1, Life: 1},
		{Name: many(16, "z"), Off: true, Hash: many(32, "\xff"), Old: many(32, "\xff"), Until: lastTime, Scope: eight(), Idle: lastTime, Absolute: lastTime, Grace: lastTime, Life: lastTime},
	}
}

func usualFamily() api.Family {
	return api.Family{ID: 3, Client: "app", Subject: "ann", Scope: []string{"read"}, Created: 100, Used: 100, Idle: 50, Absolute: 120, Grace: 10, Gen: 1, Token: 4, State: api.Active}
}

func someFamilies() []api.Family {
	l := []api.Family{
		usualFamily(),
		{ID: 1, Client: "-", Subject: ".", Idle: 1, Absolute: 1, Gen: 1, Token: 1, State: api.Active},
		{ID: lastID, Client: many(16, "z"), Subject: many(16, "z"), Scope: eight(), Created: lastTime, Used: lastTime, Idle: lastTime, Absolute: lastTime, Grace: lastTime, Gen: lastGen, Token: lastID, State: api.Expired, Ended: lastTime, Code: lastID},
		{ID: 258, Client: "a", Subject: many(16, "9"), Scope: fullScope(60), Created: 5, Used: 65536, Idle: 256, Absolute: 1 << 32, Gen: 257, Token: 1 << 40, State: api.Active, Code: 1},
	}
	for state := api.Revoked; state <= api.Expired; state++ {
		f := usualFamily()
		f.State, f.Used, f.Ended = state, 101, 101+state
		l = append(l, f)
	}
	ended := usualFamily()
	ended.Created, ended.Used, ended.State, ended.Ended = 0, 0, api.Reused, 0
	return append(l, ended)
}

func usualToken() api.Token {
	return api.Token{ID: 4, Family: 3, Gen: 1, Hash: digest(4), Minted: 100, Spent: true, At: 110, Next: 5, Secret: many(24, "s")}
}

func someTokens() []api.Token {
	return []api.Token{
		usualToken(),
		{ID: 9, Family: 3, Gen: 2, Hash: digest(5), Minted: 110},
		{ID: 1, Family: 1, Gen: 1, Hash: many(32, "\x00")},
		{ID: 1, Family: 1, Gen: 1, Hash: many(32, "\x00"), Spent: true, Next: 1, Secret: many(24, "\x00")},
		{ID: lastID, Family: lastID, Gen: lastGen, Hash: many(32, "\xff"), Minted: lastTime},
		{ID: lastID, Family: lastID, Gen: lastGen, Hash: many(32, "\xff"), Minted: lastTime, Spent: true, At: lastTime, Next: lastID, Secret: many(24, "\xff")},
	}
}

func usualCode() api.Code {
	return api.Code{ID: 6, Client: "app", Subject: "ann", Scope: []string{"read"}, Hash: digest(6), Challenge: digest(7), Until: 9, State: api.CodeSpent, Family: 3}
}

func someCodes() []api.Code {
	fresh := usualCode()
	fresh.State, fresh.Family = api.CodeFresh, 0
	return []api.Code{
		usualCode(), fresh,
		{ID: 1, Client: "-", Subject: "0", Hash: many(32, "\x00"), Challenge: many(32, "\x00"), State: api.CodeFresh},
		{ID: lastID, Client: many(16, "z"), Subject: many(16, "z"), Scope: eight(), Hash: many(32, "\xff"), Challenge: many(32, "\xff"), Until: lastTime, State: api.CodeSpent, Family: lastID},
	}
}

func usualKey() api.Key {
	return api.Key{Number: 7, Secret: many(24, "s"), From: 5, Until: lastTime}
}

func someKeys() []api.Key {
	return []api.Key{
		usualKey(),
		{Number: 1, Secret: many(24, "\x00")},
		{Number: lastGen, Secret: many(24, "\xff"), From: lastTime, Until: lastTime},
		{Number: 65537, Secret: digest(8)[:24], From: 255, Until: 256},
	}
}

func usualEvent() api.Event {
	return api.Event{Number: 9, Time: 100, Kind: api.EventIssue, Family: 3, Who: "app"}
}

func someEvents() []api.Event {
	l := []api.Event{
		usualEvent(),
		{Number: 1, Kind: 1},
		{Number: lastID, Time: lastTime, Kind: 9, Family: lastID, Who: many(16, "z")},
	}
	for kind := api.EventIssue; kind <= api.EventKey; kind++ {
		l = append(l, api.Event{Number: 255 + kind, Time: kind, Kind: kind, Who: "a"[:kind%2]})
	}
	return l
}

func usualChain() api.Chain {
	return api.Chain{Base: 2, Next: 5, BaseHash: digest(9), NextHash: digest(10)}
}

func someChains() []api.Chain {
	return []api.Chain{
		usualChain(),
		{Base: 0, Next: 1, BaseHash: many(32, "\x00"), NextHash: many(32, "\x00")},
		{Base: 0, Next: 33, BaseHash: many(32, "\x00"), NextHash: many(32, "0")},
		{Base: 255, Next: 288, BaseHash: digest(11), NextHash: digest(11)},
		{Base: lastID, Next: lastID + 1, BaseHash: many(32, "\xff"), NextHash: many(32, "\xff")},
		{Base: lastID - 32, Next: lastID + 1, BaseHash: digest(12), NextHash: digest(13)},
	}
}

// pairsOf are the pairs of records that may be, as the chapter's table says them.
func pairsOf[R any](k kind[R], records []R) []api.Pair {
	var l []api.Pair
	for _, r := range records {
		p, right := k.model(r)
		if !right {
			panic("the test is wrong")
		}
		l = append(l, p)
	}
	return l
}

// somePairs are the pairs of all of these.
func somePairs() []api.Pair {
	return slices.Concat(pairsOf(clients(), someClients()), pairsOf(families(), someFamilies()), pairsOf(tokens(), someTokens()), pairsOf(codes(), someCodes()),
		pairsOf(keys(), someKeys()), pairsOf(events(), someEvents()), pairsOf(chains(), someChains()))
}

// someEntries are the entries of all families and tokens of these.
func someEntries() []api.Pair {
	var l []api.Pair
	for _, f := range someFamilies() {
		l = append(l, entries(f)...)
	}
	for _, k := range someTokens() {
		l = append(l, entry(k))
	}
	return l
}

// Drawn at random: records that may be.

func pick[T any](r *rand.Rand, l ...T) T { return l[r.Intn(len(l))] }

// within is a number from the least to the most, often near an end or near where a byte carries over.
func within(r *rand.Rand, least, most int) int {
	edge := 1 << r.Intn(63)
	n := pick(r, least, most, least+r.Intn(3), most-r.Intn(3), edge, edge-1, edge+1, least+r.Intn(most-least+1), least+r.Intn(most-least+1)>>r.Intn(62))
	return min(max(n, least), most)
}

func someTime(r *rand.Rand) int { return within(r, 0, lastTime) }

func someID(r *rand.Rand) int { return within(r, 1, lastID) }

func someBytes(r *rand.Rand, n int) string {
	b := make([]byte, n)
	r.Read(b)
	return pick(r, string(b), many(n, string(b[:1])))
}

func someName(r *rand.Rand) string {
	b := make([]byte, pick(r, 1, 16, 1+r.Intn(16)))
	for n := range b {
		b[n] = "abcdefghijklmnopqrstuvwxyz0123456789-_."[r.Intn(39)]
	}
	return string(b)
}

func someScope(r *rand.Rand) []string {
	var l []string
	for range r.Intn(9) {
		l = append(l, someName(r))
	}
	slices.Sort(l)
	l = slices.Compact(l)
	for !isScope(l) {
		l = l[1:]
	}
	return l
}

func drawClient(r *rand.Rand) api.Client {
	c := api.Client{Name: someName(r), Off: r.Intn(2) == 0, Scope: someScope(r), Idle: within(r, 1, lastTime), Absolute: within(r, 1, lastTime), Grace: someTime(r), Life: within(r, 1, lastTime)}
	switch r.Intn(3) {
	case 0:
		c.Public = true
	case 1:
		c.Hash = someBytes(r, 32)
	default:
		c.Hash, c.Old, c.Until = someBytes(r, 32), someBytes(r, 32), someTime(r)
	}
	return c
}

func drawFamily(r *rand.Rand) api.Family {
	f := api.Family{
		ID: someID(r), Client: someName(r), Subject: someName(r), Scope: someScope(r), Created: someTime(r), Idle: within(r, 1, lastTime), Absolute: within(r, 1, lastTime),
		Grace: someTime(r), Gen: within(r, 1, lastGen), Token: someID(r), State: 1 + r.Intn(4), Code: pick(r, 0, someID(r)),
	}
	f.Used = within(r, f.Created, lastTime)
	if f.State != api.Active {
		f.Ended = within(r, f.Used, lastTime)
	}
	return f
}

func drawToken(r *rand.Rand) api.Token {
	k := api.Token{ID: someID(r), Family: someID(r), Gen: within(r, 1, lastGen), Hash: someBytes(r, 32), Minted: someTime(r)}
	if r.Intn(2) == 0 {
		k.Spent, k.At, k.Next, k.Secret = true, within(r, k.Minted, lastTime), someID(r), someBytes(r, 24)
	}
	return k
}

func drawCode(r *rand.Rand) api.Code {
	c := api.Code{ID: someID(r), Client: someName(r), Subject: someName(r), Scope: someScope(r), Hash: someBytes(r, 32), Challenge: someBytes(r, 32), Until: someTime(r), State: api.CodeFresh}
	if r.Intn(2) == 0 {
		c.State, c.Family = api.CodeSpent, someID(r)
	}
	return c
}

func drawKey(r *rand.Rand) api.Key {
	from := someTime(r)
	return api.Key{Number: within(r, 1, lastGen), Secret: someBytes(r, 24), From: from, Until: within(r, from, lastTime)}
}

func drawEvent(r *rand.Rand) api.Event {
	return api.Event{Number: someID(r), Time: someTime(r), Kind: 1 + r.Intn(9), Family: pick(r, 0, someID(r)), Who: pick(r, "", someName(r))}
}

func drawChain(r *rand.Rand) api.Chain {
	base := within(r, 0, lastID)
	return api.Chain{Base: base, Next: within(r, base+1, min(base+33, lastID+1)), BaseHash: someBytes(r, 32), NextHash: someBytes(r, 32)}
}
