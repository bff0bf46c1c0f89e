package record_test

import (
	"math"
	"math/rand"
	"reflect"
	"slices"
	"testing"

	"latchkey/api"
	"latchkey/record"
)

// R3: of Active families: whichever comes first, and sums that stop at the last time.
func TestEndOfActive(t *testing.T) {
	for _, c := range []struct{ created, absolute, used, idle, want int }{
		{100, 120, 100, 50, 150}, {100, 120, 190, 50, 220}, {100, 120, 170, 50, 220}, {100, 120, 169, 50, 219}, {100, 120, 171, 50, 220},
		{0, 1, 0, 1, 1}, {0, 1, 0, 2, 1}, {0, 2, 0, 1, 1},
		{lastTime, 1, lastTime, 1, lastTime}, {lastTime - 1, 1, lastTime, 1, lastTime}, {lastTime - 2, 1, lastTime, lastTime, lastTime - 1},
		{lastTime - 2, 3, lastTime - 2, 1, lastTime - 1}, {5, lastTime, 5, lastTime, lastTime}, {0, lastTime, 0, lastTime - 1, lastTime - 1},
	} {
		f := usualFamily()
		f.Created, f.Absolute, f.Used, f.Idle = c.created, c.absolute, c.used, c.idle
		if end := record.End(f); end != c.want {
			t.Errorf("%#v: %d, want %d", c, end, c.want)
		}
		f.Ended = 7
		if end := record.End(f); end != c.want {
			t.Errorf("%#v, with an Ended: %d, want %d", c, end, c.want)
		}
	}
}

// R3: of Active families with numbers that are no times: each counts as the nearest one ahead of all else.
func TestEndOfNoTimes(t *testing.T) {
	for _, c := range []struct{ created, absolute, used, idle, want int }{
		{100, -1, 100, 50, 100}, {100, -30, 100, 50, 100}, {100, 120, 100, -1, 100}, {100, 120, 100, math.MinInt, 100}, {100, math.MinInt, 90, -5, 90},
		{-50, 60, 100, 50, 60}, {100, 120, -50, 60, 60}, {math.MinInt, 3, 100, 50, 3}, {100, 120, math.MinInt, math.MaxInt, 220},
		{math.MaxInt, math.MaxInt, math.MaxInt, math.MaxInt, lastTime}, {math.MaxInt, -1, math.MaxInt, -lastTime, lastTime}, {lastTime + 5, -5, lastTime + 9, -7, lastTime},
		{math.MinInt, math.MinInt, math.MinInt, math.MinInt, 0}, {math.MinInt, math.MaxInt, 0, math.MaxInt, lastTime}, {0, lastTime + 1, 1, math.MaxInt, lastTime},
	} {
		f := api.Family{State: api.Active, Created: c.created, Absolute: c.absolute, Used: c.used, Idle: c.idle}
		if end := record.End(f); end != c.want {
			t.Errorf("%#v: %d, want %d", c, end, c.want)
		}
	}
}

// R3: of all other States, also such as may not be.
func TestEndOfEnded(t *testing.T) {
	for _, state := range []int{2, 3, 4, 0, 5, -1, 257, math.MinInt, math.MaxInt} {
		for _, c := range [][2]int{{0, 0}, {1, 1}, {130, 130}, {lastTime, lastTime}, {lastTime + 1, lastTime}, {-1, 0}, {math.MinInt, 0}, {math.MaxInt, lastTime}} {
			f := usualFamily()
			f.State, f.Ended = state, c[0]
			if end := record.End(f); end != c[1] {
				t.Errorf("state %d, ended %d: %d", state, c[0], end)
			}
		}
	}
}

// R3: each two of a family's numbers, at all at which something begins or ends.
func TestEndOfTwoFields(t *testing.T) {
	for _, base := range []api.Family{usualFamily(), someFamilies()[4], {}} {
		eachTwoFields(base, func(f api.Family) {
			if end := record.End(f); end != endOf(f) {
				t.Fatalf("%#v: %d, want %d", f, end, endOf(f))
			}
		})
	}
	r := rand.New(rand.NewSource(15))
	for range 20000 {
		f := drawn[api.Family](r)
		f.State = r.Intn(3)
		if end := record.End(f); end != endOf(f) {
			t.Fatalf("%#v: %d, want %d", f, end, endOf(f))
		}
	}
}

// wantEntries is R4 of a family, whatever it is.
func wantEntries(t *testing.T, f api.Family) {
	t.Helper()
	l, e := record.OfFamily(f)
	if _, right := familyPair(f); !right {
		if len(l) != 0 || e != api.ErrRecordField {
			t.Fatalf("%#v: %q, %d", f, l, e)
		}
	} else if !slices.Equal(l, entries(f)) || e != api.OK {
		t.Fatalf("%#v: %q, %d, want %q", f, l, e, entries(f))
	}
}

// wantEntry is R4 of a token, whatever it is.
func wantEntry(t *testing.T, k api.Token) {
	t.Helper()
	p, e := record.OfToken(k)
	if _, right := tokenPair(k); !right {
		if p != (api.Pair{}) || e != api.ErrRecordField {
			t.Fatalf("%#v: %q, %d", k, p, e)
		}
	} else if p != entry(k) || e != api.OK {
		t.Fatalf("%#v: %q, %d, want %q", k, p, e, entry(k))
	}
}

// R4.
func TestEntries(t *testing.T) {
	for _, f := range someFamilies() {
		wantEntries(t, f)
		eachTwoFields(f, func(f api.Family) { wantEntries(t, f) })
	}
	for _, k := range someTokens() {
		wantEntry(t, k)
		eachTwoFields(k, func(k api.Token) { wantEntry(t, k) })
	}
	r := rand.New(rand.NewSource(16))
	for range 5000 {
		wantEntries(t, drawFamily(r))
		wantEntry(t, drawToken(r))
	}
	wantEntries(t, api.Family{})
	wantEntry(t, api.Token{})
}

// found is what ParseIndex tells.
type found struct {
	kind  string
	n, id int
	text  string
	errno api.Errno
}

func look(p api.Pair) found {
	kind, n, id, text, errno := record.ParseIndex(p)
	return found{kind, n, id, text, errno}
}

// none is what it tells of all that is no entry.
func none() found { return found{errno: api.ErrRecordForm} }

// looked is R5, as the test reads it: what of a pair could be a field is read, and is held against the whole pair.
func looked(p api.Pair) found {
	if len(p.Key) == 13 && len(p.Value) == 8 && p.Key[0] == 'm' {
		family, gen, id := number(p.Key[1:9]), number(p.Key[9:]), number(p.Value)
		if isID(family) && between(gen, 1, lastGen) && isID(id) {
			return found{"m", gen, family, p.Value, api.OK}
		}
	}
	if len(p.Key) == 15 && p.Value == "" && p.Key[0] == 'x' {
		if end, id := number(p.Key[1:7]), number(p.Key[7:]); isTime(end) && isID(id) {
			return found{"x", end, id, "", api.OK}
		}
	}
	if cut := len(p.Key) - 9; cut >= 2 && p.Value == "" && p.Key[0] == 's' && p.Key[cut] == 0 {
		if id := number(p.Key[cut+1:]); isName(p.Key[1:cut]) && isID(id) {
			return found{"s", 0, id, p.Key[1:cut], api.OK}
		}
	}
	return none()
}

// number is what stands by these bytes; below 0, if it is no int.
func number(s string) int {
	n := 0
	for _, b := range []byte(s) {
		n = n<<8 | int(b)
	}
	return n
}

func wantLooked(t *testing.T, p api.Pair) {
	t.Helper()
	if got, want := look(p), looked(p); got != want {
		t.Errorf("ParseIndex of %q: %#v, want %#v", p, got, want)
	}
}

// R5: of each entry what it is of.
func TestLookAtEntries(t *testing.T) {
	for _, f := range someFamilies() {
		l := entries(f)
		if got, want := look(l[0]), (found{"x", endOf(f), f.ID, "", api.OK}); got != want {
			t.Errorf("%q: %#v, want %#v", l[0], got, want)
		}
		if got, want := look(l[1]), (found{"s", 0, f.ID, f.Subject, api.OK}); got != want {
			t.Errorf("%q: %#v, want %#v", l[1], got, want)
		}
	}
	for _, k := range someTokens() {
		if got, want := look(entry(k)), (found{"m", k.Gen, k.Family, by(8, k.ID), api.OK}); got != want {
			t.Errorf("%q: %#v, want %#v", entry(k), got, want)
		}
	}
}

// R5: each with a byte turned, cut or more.
func TestLookAtTurned(t *testing.T) {
	for _, p := range someEntries() {
		wantLooked(t, p)
		eachTurned(p, func(q api.Pair) { wantLooked(t, q) })
		for _, q := range cuts(p) {
			wantLooked(t, q)
		}
		for n := range len(p.Key) {
			wantLooked(t, api.Pair{Key: p.Key[:n], Value: p.Value})
		}
		for _, s := range []string{"\x00", "y", by(8, 1), by(8, 0), by(8, 9) + "\x00", many(300, "\x00")} {
			wantLooked(t, api.Pair{Key: p.Key, Value: s})
			wantLooked(t, api.Pair{Key: p.Key + s, Value: p.Value})
		}
	}
}

// R5: ends, IDs, generations and subjects that may not be.
func TestLookAtNone(t *testing.T) {
	for _, p := range []api.Pair{
		{}, {Key: "x"}, {Key: "m"}, {Key: "s"}, {Value: "x"}, {Key: "capp"}, {Key: "h"},
		{Key: "x" + many(14, "\xff")}, {Key: "x" + by(6, lastTime+1) + by(8, 1)}, {Key: "x" + by(6, 1<<48-1) + by(8, 1)},
		{Key: "x" + by(6, 5) + by(8, 0)}, {Key: "x" + by(6, 5) + by(8, lastID+1)}, {Key: "x" + by(6, 5) + "\x80" + by(7, 1)},
		{Key: "m" + by(8, 0) + by(4, 1), Value: by(8, 1)}, {Key: "m" + by(8, lastID+1) + by(4, 1), Value: by(8, 1)}, {Key: "m" + "\x80" + by(7, 1) + by(4, 1), Value: by(8, 1)},
		{Key: "m" + by(8, 1) + by(4, 0), Value: by(8, 1)}, {Key: "m" + by(8, 1) + by(4, lastGen+1), Value: by(8, 1)}, {Key: "m" + by(8, 1) + "\xff\xff\xff\xff", Value: by(8, 1)},
		{Key: "m" + by(8, 1) + by(4, 1), Value: by(8, 0)}, {Key: "m" + by(8, 1) + by(4, 1), Value: by(8, lastID+1)}, {Key: "m" + by(8, 1) + by(4, 1), Value: "\x80" + by(7, 1)},
		{Key: "m" + by(8, 1) + by(4, 1)}, {Key: "m" + by(8, 1) + by(4, 1), Value: by(7, 1)}, {Key: "m" + by(8, 1) + by(4, 1), Value: by(7, 0) + "\x00\x01"},
		{Key: "s\x00" + by(8, 1)}, {Key: "sAnn\x00" + by(8, 1)}, {Key: "sann" + by(8, 1)}, {Key: "sann\x01" + by(8, 1)}, {Key: "sann\x00\x00" + by(8, 1)}, {Key: "sann\x00b\x00" + by(8, 1)},
		{Key: "s" + many(17, "a") + "\x00" + by(8, 1)}, {Key: "sann\x00" + by(8, 0)}, {Key: "sann\x00" + by(8, lastID+1)}, {Key: "sann\x00\x80" + by(7, 1)}, {Key: "sann\x00" + by(7, 1)}, {Key: "sann\x00" + by(8, 1), Value: "a"},
		{Key: "s" + many(70000, "a") + "\x00" + by(8, 1)}, {Key: "x" + many(70000, "\x00")},
	} {
		if got := look(p); got != none() {
			t.Errorf("ParseIndex of %q: %#v", p, got)
		}
	}
}

// R5: the least and the greatest that may be.
func TestLookAtEnds(t *testing.T) {
	for _, c := range []struct {
		p    api.Pair
		want found
	}{
		{api.Pair{Key: "x" + by(6, 0) + by(8, 1)}, found{"x", 0, 1, "", api.OK}},
		{api.Pair{Key: "x" + by(6, lastTime) + by(8, lastID)}, found{"x", lastTime, lastID, "", api.OK}},
		{api.Pair{Key: "m" + by(8, 1) + by(4, 1), Value: by(8, 1)}, found{"m", 1, 1, by(8, 1), api.OK}},
		{api.Pair{Key: "m" + by(8, lastID) + by(4, lastGen), Value: by(8, lastID)}, found{"m", lastGen, lastID, by(8, lastID), api.OK}},
		{api.Pair{Key: "s-\x00" + by(8, 1)}, found{"s", 0, 1, "-", api.OK}},
		{api.Pair{Key: "s" + many(16, "z") + "\x00" + by(8, lastID)}, found{"s", 0, lastID, many(16, "z"), api.OK}},
		{api.Pair{Key: "ss\x00" + by(8, 256)}, found{"s", 0, 256, "s", api.OK}},
	} {
		if got := look(c.p); got != c.want || looked(c.p) != c.want {
			t.Errorf("ParseIndex of %q: %#v, want %#v", c.p, got, c.want)
		}
	}
}

// R5: of an entry that a record that may be can have: each that is taken is one of a record that is made of what it tells.
func TestLookAtSpoilt(t *testing.T) {
	r := rand.New(rand.NewSource(17))
	taken := map[string]int{}
	all := append(someEntries(), somePairs()...)
	for range 60000 {
		p := pick(r, all...)
		for range r.Intn(3) {
			p = spoiltPair(r, p)
		}
		wantLooked(t, p)
		got := look(p)
		taken[got.kind]++
		switch got.kind {
		case "m":
			wantEntry(t, api.Token{ID: number(got.text), Family: got.id, Gen: got.n, Hash: digest(1)})
		case "x":
			f := usualFamily()
			f.ID, f.Created, f.Used, f.State, f.Ended = got.id, 0, 0, api.Revoked, got.n
			if l, e := record.OfFamily(f); e != api.OK || l[0] != p {
				t.Fatalf("%q is told as the end of %#v", p, f)
			}
		case "s":
			f := usualFamily()
			f.ID, f.Subject = got.id, got.text
			if l, e := record.OfFamily(f); e != api.OK || l[1] != p {
				t.Fatalf("%q is told as the subject of %#v", p, f)
			}
		default:
			if !reflect.DeepEqual(got, none()) {
				t.Fatalf("%q: %#v", p, got)
			}
		}
	}
	if len(taken) != 4 || slices.Min([]int{taken["m"], taken["x"], taken["s"], taken[""]}) < 1000 {
		t.Errorf("taken: %#v", taken)
	}
}
