package table_test

import (
	"fmt"
	"slices"
	"testing"

	"latchkey/api"
	"latchkey/disk"
	"latchkey/table"
)

func someClient(name string) api.Client {
	return api.Client{Name: name, Hash: digest(1), Scope: []string{"list", "read"}, Idle: 50, Absolute: 120, Grace: 10, Life: 20}
}

func publicClient(name string) api.Client {
	return api.Client{Name: name, Public: true, Off: true, Idle: 1, Absolute: lastTime, Grace: lastTime, Life: 1}
}

// someFamily is one of the generation 1, whose end is 50 behind its use.
func someFamily(id, token, used int, subject string) api.Family {
	return api.Family{ID: id, Client: "app", Subject: subject, Scope: []string{"read"}, Created: used, Used: used, Idle: 50, Absolute: 120, Grace: 10, Gen: 1, Token: token, State: api.Active}
}

// endedFamily is one that was revoked.
func endedFamily(id, token, ended int, subject string) api.Family {
	f := someFamily(id, token, 0, subject)
	f.State, f.Ended = api.Revoked, ended
	return f
}

// current is a token that is not spent.
func current(id, family, gen int) api.Token {
	return api.Token{ID: id, Family: family, Gen: gen, Hash: digest(id), Minted: 100 + gen}
}

// spent is one whose successor is another.
func spent(id, family, gen, next int) api.Token {
	k := current(id, family, gen)
	k.Spent, k.At, k.Next, k.Secret = true, k.Minted+1, next, digest(next)[:24]
	return k
}

func freshCode(id int) api.Code {
	return api.Code{ID: id, Client: "app", Subject: "ann", Scope: []string{"read"}, Hash: digest(id), Challenge: digest(-id), Until: 5000, State: api.CodeFresh}
}

func spentCode(id, family int) api.Code {
	c := freshCode(id)
	c.State, c.Family = api.CodeSpent, family
	return c
}

func someKey(number int) api.Key {
	return api.Key{Number: number, Secret: digest(number)[:24], From: 300, Until: 5000}
}

func someEvent(number int) api.Event {
	return api.Event{Number: number, Time: 100, Kind: api.EventRotate, Family: 3, Who: "app"}
}

func someChain(base, next int) api.Chain {
	return api.Chain{Base: base, Next: next, BaseHash: digest(base), NextHash: digest(next)}
}

const homeTime = 1000

// home are records of all kinds that belong together, at homeTime: families of one generation, of three, of two that ended and came of a code, and one whose numbers carry over and whose subject is the beginning of another.
func home() lists {
	three := someFamily(5, 9, 230, "bob")
	three.Created, three.Gen = 200, 3
	two := endedFamily(10, 12, 400, "ann")
	two.Gen, two.Code = 2, 13
	return lists{
		clients:  []api.Client{someClient("app"), publicClient("web"), someClient("ap")},
		families: []api.Family{someFamily(3, 4, 100, "ann"), three, two, someFamily(257, 258, 100, "an")},
		tokens:   []api.Token{current(4, 3, 1), spent(8, 5, 1, 6), spent(6, 5, 2, 9), current(9, 5, 3), spent(11, 10, 1, 12), current(12, 10, 2), current(258, 257, 1)},
		codes:    []api.Code{spentCode(13, 10), freshCode(14), freshCode(256)},
		keys:     []api.Key{someKey(1), someKey(256), someKey(2)},
		events:   []api.Event{someEvent(3), someEvent(4), someEvent(5)},
		chains:   []api.Chain{someChain(2, 6)},
		next:     300,
	}
}

// atHome is a disk on which these records stand, and their table.
func atHome(t *testing.T) (*disk.Disk, *table.Table) {
	t.Helper()
	d := built(t, 64, home(), homeTime)
	return d, opened(t, d)
}

// built is a disk on which a table with these records stands.
func built(t *testing.T, blocks int, l lists, now int) *disk.Disk {
	t.Helper()
	return laid(t, blocks, l.pairs(t), noteOf(t, l.next, now))
}

// someNames are names, and texts that are none.
func someNames() []string {
	return []string{
		"app", "ap", "web", "ann", "an", "bob", "zed", "a", "-", ".", "_", "0", many(16, "z"), "a-b_c.9",
		"", many(17, "z"), "APP", "aPp", "a b", "app\x00", "\x00", "ann\x00\x00", "é", "\xff", "a/", "a:", "a`", "a{", "a@", "a[", "a,", "a^",
	}
}

// someIDs are numbers of records, those at which something begins or ends, and such as are none.
func someIDs() []int {
	l := []int{least, least + 1, -lastID, -256, -1, 0, 255, 256, 257, 258, 259, 299, 300, lastKey - 1, lastKey, lastKey + 1, 1 << 32, lastID - 1, lastID, lastID + 1, most}
	for n := range 18 {
		l = append(l, 1+n)
	}
	return l
}

// someEnds are times ahead of which something may end.
func someEnds() []int {
	return []int{least, -1, 0, 1, 119, 120, 121, 150, 151, 152, 279, 280, 281, 399, 400, 401, lastTime - 1, lastTime, lastTime + 1, 1 << 48, most}
}

// answer is what was asked, and what came of it.
type answer struct {
	what  string
	value any
	errno api.Errno
}

// looks asks a table for everything.
func looks(f face) []answer {
	var l []answer
	note := func(what string, value any, errno api.Errno) { l = append(l, answer{what, value, errno}) }
	note("Now", f.Now(), api.OK)
	for _, name := range someNames() {
		c, errno := f.Client(name)
		note(fmt.Sprintf("Client(%q)", name), c, errno)
		ids, errno := f.Subject(name)
		note(fmt.Sprintf("Subject(%q)", name), ids, errno)
	}
	for _, id := range someIDs() {
		family, errno := f.Family(id)
		note(fmt.Sprintf("Family(%d)", id), family, errno)
		token, errno := f.Token(id)
		note(fmt.Sprintf("Token(%d)", id), token, errno)
		tokens, errno := f.Tokens(id)
		note(fmt.Sprintf("Tokens(%d)", id), tokens, errno)
		code, errno := f.Code(id)
		note(fmt.Sprintf("Code(%d)", id), code, errno)
	}
	ending := func(before, most int) {
		ids, errno := f.Ending(before, most)
		note(fmt.Sprintf("Ending(%d, %d)", before, most), ids, errno)
	}
	for _, before := range someEnds() {
		ending(before, most)
	}
	for _, n := range []int{least, -1, 0, 1, 2, 3, 4, 5} {
		ending(151, n)
		ending(lastTime+1, n)
	}
	return append(l, wholes(f)...)
}

// wholes asks a table for all records of each kind of which all may be asked at once.
func wholes(f face) []answer {
	clients, e := f.Clients()
	codes, g := f.Codes()
	keys, h := f.Keys()
	events, i := f.Events()
	chain, j := f.Chain()
	return []answer{{"Clients", clients, e}, {"Codes", codes, g}, {"Keys", keys, h}, {"Events", events, i}, {"Chain", chain, j}}
}

// wantHas is that a table has just what plain lists have.
func wantHas(t *testing.T, what string, x *table.Table, p *plain) {
	t.Helper()
	wantAnswers(t, what, looks(x), looks(p))
}

func wantAnswers(t *testing.T, what string, got, want []answer) {
	t.Helper()
	for n := range want {
		if !same(got[n].value, want[n].value) || got[n].errno != want[n].errno {
			t.Fatalf("%s: %s: %v, %d; want %v, %d", what, want[n].what, got[n].value, got[n].errno, want[n].value, want[n].errno)
		}
	}
}

// wantTable is that on a disk stands a table with just these records, whose indexes are right, and that it tells them.
func wantTable(t *testing.T, what string, d *disk.Disk, l lists, now int) *table.Table {
	t.Helper()
	x := wantStands(t, what, d, l, now)
	wantHas(t, what, x, newPlain(l, now))
	return x
}

// wantStands is that just these records stand on a disk, with their entries, the next ID and the time: opening it is no act.
func wantStands(t *testing.T, what string, d *disk.Disk, l lists, now int) *table.Table {
	t.Helper()
	acts := d.Acts()
	x := opened(t, d)
	if d.Acts() != acts {
		t.Fatalf("%s: Open: %d acts", what, d.Acts()-acts)
	}
	wantStanding(t, what, d, l.pairs(t))
	if got, want := x.Pager().Note(), noteOf(t, l.next, now); got != want || x.Now() != now {
		t.Fatalf("%s: the note %q, the time %d; want %q, %d", what, got, x.Now(), want, now)
	}
	wantNext(t, what, x, l.next)
	x.Abort()
	return x
}

// wantNext is which ID is the next one; it is taken.
func wantNext(t *testing.T, what string, x *table.Table, want int) {
	t.Helper()
	id, errno := x.ID()
	if want <= lastID && (id != want || errno != api.OK) || want > lastID && (id != 0 || errno != api.ErrTableWorn) {
		t.Fatalf("%s: ID: %d, %d; want %d", what, id, errno, want)
	}
}

// wantStanding is that just these pairs stand on a disk.
func wantStanding(t *testing.T, what string, d *disk.Disk, want map[string]string) {
	t.Helper()
	if got := standing(t, d); !same(sorted(got), sorted(want)) {
		t.Fatalf("%s: there stand %q, want %q", what, sorted(got), sorted(want))
	}
}

func sorted(pairs map[string]string) []api.Pair {
	var l []api.Pair
	for key, value := range pairs {
		l = append(l, api.Pair{Key: key, Value: value})
	}
	slices.SortFunc(l, func(a, b api.Pair) int { return compare(a.Key, b.Key) })
	return l
}

func compare(a, b string) int {
	switch {
	case a < b:
		return -1
	case a > b:
		return 1
	}
	return 0
}

// TestHome is that the tests' own records belong together.
func TestHome(t *testing.T) {
	d, _ := atHome(t)
	if !home().belong(homeTime) {
		t.Fatal("the test is wrong")
	}
	wantTable(t, "home", d, home(), homeTime)
}
