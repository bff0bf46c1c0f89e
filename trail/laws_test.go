package trail_test

import (
	"fmt"
	"math/rand"
	"slices"
	"testing"

	"latchkey/api"
	"latchkey/disk"
	"latchkey/table"
	"latchkey/trail"
)

// both is a table on its disk, and the plain list that its trail must be like; with the chains that were read of it.
type both struct {
	t    *testing.T
	r    *rand.Rand
	d    *disk.Disk
	x    *table.Table
	p    *plain
	read map[int]api.Chain // those whose events all are still there, by how many these are
	lost []api.Chain       // those that had events which were forgotten
}

func newBoth(t *testing.T, seed int64) *both {
	t.Helper()
	d, x := began(t, 40)
	return &both{t, rand.New(rand.NewSource(seed)), d, x, newPlain(), map[int]api.Chain{}, nil}
}

// look holds all against the list, and against what was read ahead of it.
func (b *both) look(what string) {
	b.t.Helper()
	c, l := b.p.read()
	wantTrail(b.t, what, b.x, c, l)
	for n := 1; n < len(l); n++ {
		if l[n].Time < l[n-1].Time {
			b.t.Fatalf("%s: the time falls: %v", what, l)
		}
	}
	count := len(b.p.all)
	for n := 0; n <= count; n++ {
		was, there := b.read[n]
		if there && n >= count-32 {
			wantGoes(b.t, what+": one that was read", was, c, l, api.OK)
		} else if there {
			wantGoes(b.t, what+": one that was read long ago", was, c, l, api.ErrTrailChain)
		}
	}
	for _, was := range b.lost {
		wantGoes(b.t, what+": one that was forgotten", was, c, l, gone(was, c, l))
	}
	b.read[count] = c
}

// forget is that the events behind so many are no more: what was read of them is lost.
func (b *both) forget() {
	for n, c := range b.read {
		if n > len(b.p.all) {
			delete(b.read, n)
			b.lost = append(b.lost, c)
		}
	}
	slices.SortFunc(b.lost, func(a, b api.Chain) int { return a.Next - b.Next })
	b.lost = b.lost[max(0, len(b.lost)-10):]
}

func (b *both) note() {
	b.t.Helper()
	names := append(rightNames(), wrongNames()[:6]...)
	a := noteArgs{drawnOf(b.r, -1, 0, 1, 2, 3, 4, 5, 6, 7, 8, 9, 9, 10), drawnOf(b.r, -1, 0, 0, 0, 1, 1, 5, lastID, lastID, lastID+1), names[b.r.Intn(len(names))]}
	if a.right() {
		wantNote(b.t, b.x, a.kind, a.family, a.who, b.p.note(a.kind, a.family, a.who), api.OK)
	} else {
		wantNote(b.t, b.x, a.kind, a.family, a.who, 0, api.ErrTrailField)
	}
}

func (b *both) see() {
	reading := drawnOf(b.r, least, -1, b.p.now-1, b.p.now, b.p.now+b.r.Intn(9), b.p.now+b.r.Intn(9))
	b.x.See(reading)
	b.p.see(reading)
}

func (b *both) commit() {
	b.t.Helper()
	wantErrno(b.t, "Commit", b.x.Commit(), api.OK)
	b.p.commit()
}

func (b *both) abort() {
	b.x.Abort()
	b.p.abort()
	b.forget()
}

func (b *both) reopen() {
	b.t.Helper()
	b.x = opened(b.t, b.d)
	b.p.reopen()
	b.forget()
}

// die lets the disk die in a commit, or behind its last act, and opens what is left.
func (b *both) die() {
	b.t.Helper()
	wantErrno(b.t, "Arm", b.d.Arm(1+b.r.Intn(9)), api.OK)
	under := false // the commit is under way
	if errno := b.x.Commit(); errno == api.OK {
		b.p.commit()
		for b.d.Sync() == api.OK {
		}
	} else {
		wantErrno(b.t, "Commit", errno, api.ErrDead)
		under = true
	}
	wantDead(b.t, "dead", b.x)
	var keep []api.Keep
	for n := range b.d.Pending() {
		keep = append(keep, api.Keep{N: n, Sectors: drawnOf(b.r, 0, 255, b.r.Intn(256))})
	}
	wantErrno(b.t, "Crash", b.d.Crash(keep), api.OK)
	wantDead(b.t, "in doubt", b.x)
	b.x = opened(b.t, b.d)
	if c, errno := b.x.Chain(); under && errno == api.OK && (c.Next != b.p.committed+1 || b.x.Now() != b.p.noted) {
		b.p.commit() // it is there, as a whole, or look finds the fault
	}
	b.p.reopen()
	b.forget()
}

// T6: whatever is noted, and however often the table is opened anew.
func TestLawRows(t *testing.T) {
	for seed := range int64(12) {
		t.Run(fmt.Sprint(seed), func(t *testing.T) {
			t.Parallel()
			b := newBoth(t, seed)
			b.look("just laid")
			for range 250 {
				switch n := b.r.Intn(100); {
				case n < 55:
					b.note()
				case n < 75:
					b.see()
				case n < 85:
					b.commit()
				case n < 90:
					b.abort()
				case n < 95:
					b.reopen()
				default:
					b.die()
				}
				b.look("behind a step")
			}
			b.commit()
			b.reopen()
			b.look("at last")
		})
	}
}

// T6: a disk that dies at each act of the commits of so many notes, with each sector of the head alone, has the one trail or the other.
func TestLawEachAct(t *testing.T) {
	for _, before := range []int{0, 1, 31, 32, 40} {
		for act := 1; act <= 12; act++ {
			for sectors := range 8 {
				d, x := began(t, 40)
				p := newPlain()
				for range before {
					wantNote(t, x, 2, 1, "app", p.note(2, 1, "app"), api.OK)
				}
				wantErrno(t, "Commit", x.Commit(), api.OK)
				old, events := p.read()
				x.See(8)
				p.see(8)
				wantNote(t, x, 3, 1, "app", p.note(3, 1, "app"), api.OK)
				wantErrno(t, "Arm", d.Arm(act), api.OK)
				if x.Commit() == api.OK {
					continue
				}
				var keep []api.Keep
				for n := range d.Pending() {
					keep = append(keep, api.Keep{N: n, Sectors: 1 << sectors})
				}
				wantErrno(t, "Crash", d.Crash(keep), api.OK)
				x = opened(t, d)
				c, l := p.read()
				if is, _ := x.Chain(); is != c {
					c, l = old, events
				}
				wantTrail(t, "behind a death", x, c, l)
				wantGoes(t, "from what stood", old, c, l, api.OK)
			}
		}
	}
}

// spoiled is a trail in which one thing, drawn, is another, or none.
func spoiled(r *rand.Rand, c api.Chain, l []api.Event) (api.Chain, []api.Event) {
	l = slices.Clone(l)
	if len(l) > 0 {
		n, m := r.Intn(len(l)), r.Intn(len(l))
		switch r.Intn(9) {
		case 0:
			l[n] = drawnEvent(r, l[n].Number)
		case 1:
			l[n].Number += drawnOf(r, -1, 1, least, most)
		case 2:
			l = slices.Delete(l, n, n+1)
		case 3:
			l[n], l[m] = l[m], l[n]
		case 4:
			l = slices.Insert(l, n, l[m])
		case 5:
			l[n].Kind = drawnOf(r, 0, 1, 9, 10)
		case 6:
			l[n].Family = drawnOf(r, -1, 0, lastID, lastID+1)
		}
	}
	switch r.Intn(9) {
	case 0:
		c.Base += drawnOf(r, -1, 1, 33, least, most)
	case 1:
		c.Next += drawnOf(r, -1, 1, 33, least, most)
	case 2:
		c.BaseHash = bent(c.BaseHash, r.Intn(256))
	case 3:
		c.NextHash = bent(digest(r.Intn(9)), r.Intn(256))
	case 4:
		c.NextHash = digest(8)[:r.Intn(33)]
	}
	return c, l
}

// T4, T5: trails that lead, and such as do not, drawn.
func TestLawSpoiled(t *testing.T) {
	r := rand.New(rand.NewSource(4))
	counts := map[string]int{}
	for range 20000 {
		base := drawnOf(r, 0, 1, r.Intn(100), lastID-33, lastID-40, lastID-r.Intn(33))
		size := min(drawnOf(r, 0, 1, 31, 32, r.Intn(33), r.Intn(5)), lastID-base)
		hash := drawnOf(r, 1, 2, 3)
		c, l := api.Chain{Base: base, Next: base + size + 1, BaseHash: digest(hash)}, []api.Event(nil)
		for n := range size {
			l = append(l, drawnEvent(r, base+n+1))
		}
		c.NextHash = shaAlong(c.BaseHash, l)
		known := r.Intn(size + 1)
		was := api.Chain{Base: max(0, base+known-r.Intn(33)), Next: base + known + 1, BaseHash: digest(9), NextHash: shaAlong(c.BaseHash, l[:known])}
		for range r.Intn(3) {
			c, l = spoiled(r, c, l)
		}
		if r.Intn(3) == 0 {
			was, _ = spoiled(r, was, nil)
		}
		wantErrno(t, "Verify", trail.Verify(c, l), verified(c, l))
		wantErrno(t, "Goes", trail.Goes(was, c, l), gone(was, c, l))
		counts[fmt.Sprint("Verify ", verified(c, l))]++
		counts[fmt.Sprint("Goes ", gone(was, c, l))]++
	}
	for _, what := range []string{"Verify 0", "Verify 160", "Verify 161", "Goes 0", "Goes 160", "Goes 161"} {
		if counts[what] < 500 {
			t.Fatalf("the test is wrong: %s: %d", what, counts[what])
		}
	}
}
