package record_test

import (
	"math/rand"
	"slices"
	"testing"

	"latchkey/api"
	"latchkey/record"
)

// wantLaws is R7 of records drawn at random: Parse of Print is the record, Print of what Parse told is the pair, and nobody else takes it.
func wantLaws[R any](t *testing.T, k kind[R], letter string, draw func(*rand.Rand) R) {
	t.Helper()
	r := rand.New(rand.NewSource(19))
	for range 4000 {
		rec := draw(r)
		p, e := k.print(rec)
		if want, right := k.model(rec); e != api.OK || !right || p != want {
			t.Fatalf("%s %#v: %q, %d, want %q, %#v", k.what, rec, p, e, want, right)
		}
		got, e := k.parse(p)
		if e != api.OK || !same(got, rec) {
			t.Fatalf("%s %q: %#v, %d, want %#v", k.what, p, got, e, rec)
		}
		if again, e := k.print(got); again != p || e != api.OK {
			t.Fatalf("%s %#v: %q, %d, want %q", k.what, got, again, e, p)
		}
		if n := takers(p); n != letter {
			t.Fatalf("%s %q is taken by %q", k.what, p, n)
		}
		if len(p.Key) < 1 || len(p.Key) > 36 || len(p.Value) > 200 {
			t.Fatalf("%s %q: %d and %d bytes", k.what, p, len(p.Key), len(p.Value))
		}
	}
}

func TestLaws(t *testing.T) {
	wantLaws(t, clients(), "c", drawClient)
	wantLaws(t, families(), "f", drawFamily)
	wantLaws(t, tokens(), "t", drawToken)
	wantLaws(t, codes(), "a", drawCode)
	wantLaws(t, keys(), "k", drawKey)
	wantLaws(t, events(), "e", drawEvent)
	wantLaws(t, chains(), "h", drawChain)
}

// R7: entries of records drawn at random are taken by ParseIndex alone.
func TestLawsOfEntries(t *testing.T) {
	r := rand.New(rand.NewSource(20))
	for range 4000 {
		l, e := record.OfFamily(drawFamily(r))
		p, e2 := record.OfToken(drawToken(r))
		if e != api.OK || e2 != api.OK {
			t.Fatal(e, e2)
		}
		if takers(l[0]) != "x" || takers(l[1]) != "s" || takers(p) != "m" {
			t.Fatalf("%q is taken by %q, %q by %q, %q by %q", l[0], takers(l[0]), l[1], takers(l[1]), p, takers(p))
		}
		for _, q := range append(l, p) {
			if len(q.Key) > 36 || len(q.Value) > 200 {
				t.Fatalf("%q: %d and %d bytes", q, len(q.Key), len(q.Value))
			}
		}
	}
}

// R7: no pair is that of two records, or of a record and an entry; pairs drawn at random, of what is usual in pairs.
func TestLawOneTaker(t *testing.T) {
	r := rand.New(rand.NewSource(21))
	all := append(somePairs(), someEntries()...)
	taken := 0
	for range 40000 {
		p, q := pick(r, all...), pick(r, all...)
		switch r.Intn(4) {
		case 0:
			p.Value = q.Value
		case 1:
			p.Key = q.Key[:1] + p.Key[1:]
		case 2:
			p = spoiltPair(r, p)
		default:
			p = api.Pair{Key: string(letters[r.Intn(len(letters))]) + someBytes(r, 1+r.Intn(24)), Value: pick(r, "", by(8, someID(r)), someBytes(r, 1+r.Intn(180)))}
		}
		n := takers(p)
		if len(n) > 1 || len(n) == 1 && n != p.Key[:1] {
			t.Fatalf("%q is taken by %q", p, n)
		}
		taken += len(n)
	}
	if taken < 2000 {
		t.Errorf("only %d are taken", taken)
	}
}

// rising are numbers from 1 on, at which a byte carries over, and some between them.
func rising(most int) []int {
	r := rand.New(rand.NewSource(22))
	l := []int{1, 2, 3, 7, 9, 10, most - 1, most}
	for bit := 1; bit < 63 && 1<<bit <= most; bit++ {
		l = append(l, 1<<bit-1, 1<<bit, min(1<<bit+1, most), 1+r.Intn(1<<bit))
	}
	slices.Sort(l)
	return slices.Compact(l)
}

// wantRising is that the keys of pairs rise, each above the one ahead of it.
func wantRising(t *testing.T, what string, l []api.Pair) {
	t.Helper()
	if len(l) < 50 {
		t.Errorf("%s: only %d pairs", what, len(l))
	}
	for n := range l {
		if n > 0 && l[n-1].Key >= l[n].Key {
			t.Errorf("%s: %q is not below %q", what, l[n-1].Key, l[n].Key)
		}
	}
}

// R7: the keys of records rise with their numbers.
func TestLawKeysRise(t *testing.T) {
	var f, k, c, s, e []api.Pair
	more := func(l *[]api.Pair, p api.Pair, errno api.Errno) {
		if *l = append(*l, p); errno != api.OK {
			t.Fatal(errno)
		}
	}
	for _, n := range rising(lastID) {
		a, b, d, v := usualFamily(), usualToken(), usualCode(), usualEvent()
		a.ID, b.ID, d.ID, v.Number = n, n, n, n
		p, errno := record.PrintFamily(a)
		more(&f, p, errno)
		p, errno = record.PrintToken(b)
		more(&k, p, errno)
		p, errno = record.PrintCode(d)
		more(&c, p, errno)
		p, errno = record.PrintEvent(v)
		more(&e, p, errno)
	}
	for _, n := range rising(lastGen) {
		a := usualKey()
		a.Number = n
		p, errno := record.PrintKey(a)
		more(&s, p, errno)
	}
	wantRising(t, "families", f)
	wantRising(t, "tokens", k)
	wantRising(t, "codes", c)
	wantRising(t, "keys", s)
	wantRising(t, "events", e)
}

// R7: the keys of MEMBERS rise with the family and then the generation, those of ENDS with the end and then the ID.
func TestLawEntriesRise(t *testing.T) {
	var members, ends []api.Pair
	for _, id := range rising(lastID) {
		for _, gen := range rising(lastGen) {
			k := usualToken()
			k.Family, k.Gen = id, gen
			p, e := record.OfToken(k)
			if members = append(members, p); e != api.OK {
				t.Fatal(e)
			}
		}
	}
	for _, end := range rising(lastTime) {
		for _, id := range rising(lastID) {
			f := usualFamily()
			f.ID, f.Created, f.Used, f.State, f.Ended = id, 0, 0, api.Revoked, end
			l, e := record.OfFamily(f)
			if e != api.OK {
				t.Fatal(e)
			}
			ends = append(ends, l[0])
		}
	}
	wantRising(t, "members", members)
	wantRising(t, "ends", ends)
}

// R7: the keys of a subject stand side by side, by rising IDs, with none of another subject's between them.
func TestLawSubjectsTogether(t *testing.T) {
	var l []api.Pair
	subjects := []string{"-", "--", "a", "a-", "a.", "a0", "aa", "aaa", many(16, "a"), "ab", "b"}
	for _, s := range subjects {
		for _, id := range []int{1, 255, 256, 0x2d2d2d2d2d2d2d2d, 0x3030303030303030, lastID} {
			f := usualFamily()
			f.Subject, f.ID = s, id
			p, e := record.OfFamily(f)
			if e != api.OK {
				t.Fatal(e)
			}
			l = append(l, p[1])
		}
	}
	wantRising(t, "subjects", l)
}

// R8: the greatest one of each kind takes just so much, and none drawn at random takes more.
func TestGreatestSizes(t *testing.T) {
	size := func(p api.Pair, e api.Errno) int {
		if e != api.OK {
			t.Fatal(e)
		}
		return 2 + len(p.Key) + len(p.Value)
	}
	r := rand.New(rand.NewSource(23))
	for n := range 3000 {
		c, f, k, a, s, e, h := drawClient(r), drawFamily(r), drawToken(r), drawCode(r), drawKey(r), drawEvent(r), drawChain(r)
		if n == 0 {
			c, f, k, a, s, e, h = someClients()[7], someFamilies()[2], someTokens()[5], someCodes()[3], someKeys()[2], someEvents()[2], someChains()[4]
		}
		l, errno := record.OfFamily(f)
		if errno != api.OK || len(l) != 2 {
			t.Fatal(l, errno)
		}
		got := []int{
			size(record.PrintClient(c)), size(record.PrintFamily(f)), size(l[0], errno), size(l[1], errno), size(record.PrintToken(k)), size(record.OfToken(k)),
			size(record.PrintCode(a)), size(record.PrintKey(s)), size(record.PrintEvent(e)), size(record.PrintChain(h)),
		}
		for at, most := range []int{177, 163, 17, 28, 101, 23, 185, 43, 43, 83} {
			if got[at] > most || n == 0 && got[at] != most {
				t.Fatalf("%d: %d bytes, at most %d", at, got[at], most)
			}
		}
	}
}
