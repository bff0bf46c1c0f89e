package table_test

import (
	"fmt"
	"maps"
	"math/rand"
	"slices"
	"testing"

	"latchkey/api"
	"latchkey/disk"
	"latchkey/pager"
	"latchkey/table"
	"latchkey/tree"
)

// spoilt are the pairs of records whose indexes are turned.
func spoilt(t *testing.T, l lists, turn func(pairs map[string]string)) map[string]string {
	t.Helper()
	pairs := l.pairs(t)
	turn(pairs)
	return pairs
}

func without(letters string) func(pairs map[string]string) {
	return func(pairs map[string]string) {
		maps.DeleteFunc(pairs, func(key, _ string) bool { return slices.Contains([]byte(letters), key[0]) })
	}
}

func with(key, value string) func(pairs map[string]string) {
	return func(pairs map[string]string) { pairs[key] = value }
}

func less(key string) func(pairs map[string]string) {
	return func(pairs map[string]string) {
		if _, there := pairs[key]; !there {
			panic("the test is wrong")
		}
		delete(pairs, key)
	}
}

func member(family, gen int) string { return "m" + by(8, family) + by(4, gen) }

func end(time, id int) string { return "x" + by(6, time) + by(8, id) }

func subject(name string, id int) string { return "s" + name + "\x00" + by(8, id) }

// faults are indexes that are not right.
func faults() map[string]func(pairs map[string]string) {
	return map[string]func(pairs map[string]string){
		"no member":                  less(member(5, 2)),
		"no first member":            less(member(3, 1)),
		"no end":                     less(end(150, 3)),
		"no subject":                 less(subject("bob", 5)),
		"no members":                 without("m"),
		"no ends":                    without("x"),
		"no subjects":                without("s"),
		"no indexes":                 without("msx"),
		"another's member":           with(member(5, 2), by(8, 4)),
		"a member that is nobody":    with(member(5, 2), by(8, lastID)),
		"a member of a double place": with(member(5, 3), by(8, 6)),
		"a member too many":          with(member(5, 4), by(8, 9)),
		"a member of no family":      with(member(4, 1), by(8, 4)),
		"the last member":            with(member(lastID, lastGen), by(8, lastID)),
		"an end too many":            with(end(151, 3), ""),
		"the least end":              with(end(0, 1), ""),
		"the last end":               with(end(lastTime, lastID), ""),
		"an end of no family":        with(end(150, 4), ""),
		"a subject too many":         with(subject("ann", 5), ""),
		"a subject of no family":     with(subject("ann", 4), ""),
		"a subject that is nobody":   with(subject("zed", 9), ""),
		"the last subject":           with(subject(many(16, "z"), lastID), ""),
		"an end instead of another":  func(pairs map[string]string) { less(end(150, 3))(pairs); with(end(149, 3), "")(pairs) },
		"a subject instead":          func(pairs map[string]string) { less(subject("ann", 3))(pairs); with(subject("anne", 3), "")(pairs) },
		"of each some, some too many": func(pairs map[string]string) {
			without("mx")(pairs)
			with(end(7, 7), "")(pairs)
			with(subject("eve", 3), "")(pairs)
		},
	}
}

// mended is what layer 11 makes of it: one commit, of just the entries that are wrong, with the same note.
func mended(t *testing.T, d *disk.Disk, l lists) (*disk.Disk, int) {
	t.Helper()
	other := loaded(t, d.Blocks())
	p, errno := pager.Mount(other)
	wantErrno(t, "Mount", errno, api.OK)
	x := tree.Open(p)
	for key := range standing(t, d) {
		if _, stays := l.pairs(t)[key]; !stays {
			_, errno := x.Delete(key)
			wantErrno(t, "Delete", errno, api.OK)
		}
	}
	for key, value := range l.pairs(t) {
		wantErrno(t, "Put", x.Put(key, value), api.OK)
	}
	wantErrno(t, "Commit", x.Commit(p.Note()), api.OK)
	return other, other.Acts()
}

// B2, P13: what is wrong is put right in one commit, block by block what layer 11 makes of it; what was right is opened by no act.
func TestMend(t *testing.T) {
	for what, turn := range faults() {
		d := laid(t, 64, spoilt(t, home(), turn), noteOf(t, 300, homeTime))
		want, acts := mended(t, d, home())
		was, before := generation(t, d), d.Acts()
		x := opened(t, d)
		if d.Acts() != before+acts || !slices.Equal(d.Blocks(), want.Blocks()) || len(d.Pending()) > 0 {
			t.Fatalf("%s: %d acts, want %d", what, d.Acts()-before, acts)
		}
		if x.Pager().Generation() != was+1 || x.Pager().Note() != noteOf(t, 300, homeTime) {
			t.Fatalf("%s: the generation %d, behind %d; the note %q", what, x.Pager().Generation(), was, x.Pager().Note())
		}
		wantHas(t, what, x, newPlain(home(), homeTime))
		wantTable(t, what, d, home(), homeTime)
		x.Abort()
		wantHas(t, what, x, newPlain(home(), homeTime))
		before = d.Acts()
		wantErrno(t, "Commit", x.Commit(), api.OK)
		if d.Acts() != before+3 {
			t.Fatalf("%s: something was begun: %d acts", what, d.Acts()-before)
		}
	}
}

func generation(t *testing.T, d *disk.Disk) int {
	t.Helper()
	p, errno := pager.Mount(d)
	wantErrno(t, "Mount", errno, api.OK)
	return p.Generation()
}

// P13: entries alone, of no records at all.
func TestMendNoRecords(t *testing.T) {
	d := laid(t, 16, map[string]string{member(1, 1): by(8, 1), end(0, 1): "", subject("a", 1): ""}, firstNote)
	x := opened(t, d)
	if x.Pager().Root() != 0 {
		t.Fatalf("the root is %d", x.Pager().Root())
	}
	wantTable(t, "no records", d, lists{next: 1}, 0)
}

// B2, B11: the disk dies in each act of that commit, and whatever sectors stay: the records are as they were, and whoever opens it next puts the indexes right.
func TestMendDies(t *testing.T) {
	t.Parallel()
	for _, what := range []string{"no member", "a subject too many", "no indexes", "of each some, some too many"} {
		image := laid(t, 64, spoilt(t, home(), faults()[what]), noteOf(t, 300, homeTime)).Blocks()
		_, acts := mended(t, loaded(t, image), home())
		for act := 1; act <= acts; act++ {
			d := loaded(t, image)
			wantErrno(t, "Arm", d.Arm(act), api.OK)
			if x, errno := table.Open(d); x != nil || errno != api.ErrDead || d.Acts() != act-1 {
				t.Fatalf("%s, dying in the act %d: %v, %d, %d acts", what, act, x, errno, d.Acts())
			}
			crashes(t, d, 4, int64(act), func(crash string, d *disk.Disk) {
				opened(t, d)
				wantStands(t, what+", "+crash, d, home(), homeTime)
			})
		}
	}
}

// B2, B11: of one entry and one page: each choice of sectors.
func TestMendDiesAtEachSector(t *testing.T) {
	t.Parallel()
	l := lists{next: 9, families: []api.Family{someFamily(3, 4, 0, "ann")}, tokens: []api.Token{current(4, 3, 1)}}
	image := laid(t, 8, spoilt(t, l, without("s")), noteOf(t, 9, 200)).Blocks()
	for act := 1; act <= 4; act++ {
		d := loaded(t, image)
		wantErrno(t, "Arm", d.Arm(act), api.OK)
		_, errno := table.Open(d)
		wantErrno(t, "Open", errno, api.ErrDead)
		crashes(t, d, 256, int64(act), func(crash string, d *disk.Disk) {
			opened(t, d)
			wantStands(t, crash, d, l, 200)
		})
	}
}

// B2: no room for that commit: ErrPagerFull, and nothing is changed; the records are there still.
func TestMendFull(t *testing.T) {
	pairs := spoilt(t, home(), without("msx"))
	big := laid(t, 64, pairs, noteOf(t, 300, homeTime))
	_, acts := mended(t, big, home())
	need := 2 + len(reached(t, big)) + acts - 3
	for _, blocks := range []int{need - 1, need} {
		d := laid(t, blocks, pairs, noteOf(t, 300, homeTime))
		if blocks < need {
			wantRefused(t, "without indexes", d, api.ErrPagerFull)
			wantStanding(t, "without indexes", d, pairs)
			continue
		}
		opened(t, d)
		wantTable(t, "just room enough", d, home(), homeTime)
	}
	wantRefused(t, "a pair that is none is told ahead of no room", laid(t, need-1, spoiltClient(pairs), noteOf(t, 300, homeTime)), api.ErrTableForm)
}

// spoiltClient are pairs with a client that is none, as long as it was.
func spoiltClient(pairs map[string]string) map[string]string {
	pairs = maps.Clone(pairs)
	pairs["capp"] = "\x09" + pairs["capp"][1:]
	return pairs
}

func reached(t *testing.T, d *disk.Disk) []int {
	t.Helper()
	p, errno := pager.Mount(d)
	wantErrno(t, "Mount", errno, api.OK)
	return p.Reached()
}

// B2: no generation is left: ErrPagerWorn, and nothing is changed; if the indexes are right, none is needed.
func TestMendWorn(t *testing.T) {
	pairs := spoilt(t, home(), less(end(150, 3)))
	d := aged(t, laid(t, 64, pairs, noteOf(t, 300, homeTime)), worn)
	wantRefused(t, "no generation is left", d, api.ErrPagerWorn)
	wantStanding(t, "no generation is left", d, pairs)
	last := aged(t, laid(t, 64, pairs, noteOf(t, 300, homeTime)), worn-1)
	x := opened(t, last)
	wantTable(t, "the last generation", last, home(), homeTime)
	wantErrno(t, "Commit", x.Commit(), api.ErrPagerWorn)
	wantTable(t, "right", aged(t, built(t, 64, home(), homeTime), worn), home(), homeTime)
	wantRefused(t, "full and worn", aged(t, tight(t), worn), api.ErrPagerFull)
}

// tight is a disk on which there is no room to mend what is to be mended.
func tight(t *testing.T) *disk.Disk {
	t.Helper()
	pairs := spoilt(t, home(), without("msx"))
	return laid(t, 2+len(reached(t, laid(t, 64, pairs, firstNote))), pairs, noteOf(t, 300, homeTime))
}

// B11, P13: whatever entries are missing, too many, or wrong.
func TestMendDrawn(t *testing.T) {
	t.Parallel()
	for seed := range 60 {
		r := rand.New(rand.NewSource(int64(1500 + seed)))
		pairs := home().pairs(t)
		for _, key := range slices.Sorted(maps.Keys(home().entries())) {
			if r.Intn(3) == 0 {
				delete(pairs, key)
			}
			if r.Intn(3) == 0 && key[0] == 'm' {
				pairs[key] = by(8, 1+r.Intn(20))
			}
		}
		for range r.Intn(20) {
			key, value := drawnEntry(r)
			pairs[key] = value
		}
		d := laid(t, 64, pairs, noteOf(t, 300, homeTime))
		if !wantOpenAs(t, fmt.Sprintf("drawn by %d", seed), d) {
			t.Fatal("the test is wrong")
		}
		wantTable(t, "drawn", d, home(), homeTime)
	}
}

func drawnEntry(r *rand.Rand) (key, value string) {
	id := 1 + r.Intn(14)
	switch r.Intn(3) {
	case 0:
		return member(id, 1+r.Intn(4)), by(8, 1+r.Intn(14))
	case 1:
		return end(r.Intn(400), id), ""
	}
	return subject([]string{"a", "an", "ann", "bob", "zed"}[r.Intn(5)], id), ""
}
