package pager_test

import (
	"maps"
	"math/rand"
	"slices"
	"testing"

	"latchkey/api"
	"latchkey/disk"
	"latchkey/pager"
)

// pair is a disk with its pager, and the model of both.
type pair struct {
	d *disk.Disk
	p *pager.Pager
	m *model
}

// newPair is one on which Format laid a store.
func newPair(t *testing.T, r *rand.Rand) *pair {
	t.Helper()
	d := fresh(t, 8+r.Intn(8))
	note := someNote(r)
	wantErrno(t, "Format", pager.Format(d, note), api.OK)
	return &pair{d, mounted(t, d), newModel(d.Size(), store{1, 0, note, map[int]api.Page{}})}
}

// wantSame holds all that a pager tells against its model, and what lasts of the pages that are reached or held.
func (x *pair) wantSame(t *testing.T) {
	t.Helper()
	p, m := x.p, x.m
	held := m.held()
	wantLast(t, p, m.last.generation, m.last.root, m.last.note, slices.Sorted(maps.Keys(m.last.pages))...)
	wantRoom(t, p, len(m.free()), len(held))
	if p.Size() != m.size || p.Doubt() != m.doubt || x.d.Dead() != m.dead {
		t.Fatalf("Size: %d, Doubt: %v, the disk is dead: %v", p.Size(), p.Doubt(), x.d.Dead())
	}
	blocks := x.d.Blocks()
	for _, pages := range []map[int]api.Page{m.last.pages, held} {
		for n, page := range pages {
			if blocks[n] != blockOf(page) {
				t.Fatalf("the page %d is not on its block any more", n)
			}
		}
	}
}

// wantAnswers holds what is told of pages and room against the model; a dead disk brings a doubt by that.
func (x *pair) wantAnswers(t *testing.T) {
	t.Helper()
	for n := -1; n <= x.m.size; n++ {
		got, errno := x.p.Read(n)
		if want, e := x.m.read(n); errno != e || !samePage(got, want) {
			t.Fatalf("Read(%d): %v, %d; want %v, %d", n, got, errno, want, e)
		}
		l, errno := x.p.Next(n)
		if want, e := x.m.next(n); errno != e || !slices.Equal(l, want) {
			t.Fatalf("Next(%d): %v, %d; want %v, %d", n, l, errno, want, e)
		}
	}
}

// commit does one to both.
func (x *pair) commit(t *testing.T, c commit) {
	t.Helper()
	wantCommit(t, x.p, c.fresh, c.root, c.note, c.gone, x.m.commit(c))
}

// step does one thing to both, and holds the answers against one another; trees: each commit leaves a tree.
func (x *pair) step(t *testing.T, r *rand.Rand, trees bool) {
	t.Helper()
	switch n := r.Intn(20); {
	case n < 9:
		c := x.m.anyCommit(r)
		if trees {
			c = x.m.treeCommit(r)
		}
		if !trees && r.Intn(3) == 0 {
			c = x.m.spoil(r, c)
		}
		x.commit(t, c)
	case n < 12:
		pin, errno := x.m.pin()
		wantPin(t, x.p, pin, errno)
	case n < 16:
		pin := r.Intn(7) - 1
		wantErrno(t, "Unpin", x.p.Unpin(pin), x.m.unpin(pin))
	case n < 17:
		x.wantAnswers(t)
	case n < 19:
		x.arm(t, r)
	default:
		x.sync(t)
	}
}

// arm lets the disk die in one of the acts of the next commits.
func (x *pair) arm(t *testing.T, r *rand.Rand) {
	t.Helper()
	if !x.m.dead {
		x.m.fuse = r.Intn(12)
		wantErrno(t, "Arm", x.d.Arm(x.m.fuse), api.OK)
	}
}

// sync is an act of somebody else's, in which the disk may die as well, ahead of all doubt.
func (x *pair) sync(t *testing.T) {
	t.Helper()
	want := api.OK
	if x.m.fuse == 1 || x.m.dead {
		x.m.dead, want = true, api.ErrDead
	}
	x.m.fuse = max(0, x.m.fuse-1)
	wantErrno(t, "Sync", x.d.Sync(), want)
}

// crash lets any sectors of what is pending stay; the model goes on from the last commit, or from the one under way, if its head's first sector stayed.
func (x *pair) crash(t *testing.T, r *rand.Rand) {
	t.Helper()
	var l []api.Keep
	stays := false
	for n, w := range x.d.Pending() {
		sectors := r.Intn(256)
		if r.Intn(4) > 0 {
			l = append(l, api.Keep{N: n, Sectors: sectors})
			stays = stays || w.Block < 2 && sectors%2 == 1
		}
	}
	r.Shuffle(len(l), func(i, j int) { l[i], l[j] = l[j], l[i] })
	wantErrno(t, "Crash", x.d.Crash(l), api.OK)
	if stays {
		if x.m.under == nil {
			t.Fatal("a head is pending, though the disk died ahead of the last act")
		}
		x.m.last = *x.m.under
	}
	doubt := x.m.doubt
	pins := x.m.pins
	x.m = newModel(x.m.size, x.m.last)
	if !doubt { // nothing was pending: the pager goes on as if nothing had been
		x.m.pins = pins
	}
}

// G5 to G9: scripts drawn at random, with commits that may not be, and with deaths, behind which the store may be refused.
func TestScripts(t *testing.T) {
	r := rand.New(rand.NewSource(10))
	deaths, refused := 0, 0
	for range 600 {
		x := newPair(t, r)
		for range 60 {
			x.step(t, r, false)
			x.wantSame(t)
		}
		if !x.m.doubt {
			continue
		}
		deaths++
		wantInDoubt(t, x.p)
		x.crash(t, r)
		wantInDoubt(t, x.p)
		s, ok := standing(x.d.Blocks())
		if s.generation != x.m.last.generation || s.root != x.m.last.root || s.note != x.m.last.note {
			t.Fatal("neither the last commit nor the one under way stands")
		}
		if !ok {
			refused++
			wantMountRefused(t, x.d, api.ErrPagerForm)
			continue
		}
		y := &pair{x.d, mounted(t, x.d), newModel(x.d.Size(), s)}
		y.wantSame(t)
		y.wantAnswers(t)
	}
	if deaths < 100 || refused < 20 || refused > deaths-20 {
		t.Errorf("%d deaths, %d stores that are refused", deaths, refused)
	}
}

// G10, P2, P8, P10: commits of trees, drawn at random, with pins and deaths, and any sectors that stay: what is mounted then is the last commit, or the one under way, as a whole.
func TestTreesOverDeaths(t *testing.T) {
	r := rand.New(rand.NewSource(11))
	deaths, under := 0, 0
	for range 150 {
		x := newPair(t, r)
		for range 150 {
			x.step(t, r, true)
			x.wantSame(t)
			if !x.m.dead {
				continue
			}
			deaths++
			generation, doubt := x.m.last.generation, x.m.doubt
			x.crash(t, r)
			under += x.m.last.generation - generation
			if doubt {
				wantInDoubt(t, x.p)
				x.p = mounted(t, x.d)
			}
			x.wantSame(t)
			x.wantAnswers(t)
		}
		wantWhole(t, x)
	}
	if deaths < 1000 || under < 20 {
		t.Errorf("%d deaths, %d of which left the commit that was under way", deaths, under)
	}
}

// wantWhole: what stands on a disk by the chapter's words is what its pager has.
func wantWhole(t *testing.T, x *pair) {
	t.Helper()
	s, ok := standing(x.d.Blocks())
	if !ok || !maps.EqualFunc(s.pages, x.m.last.pages, samePage) || s.generation != x.m.last.generation || s.root != x.m.last.root || s.note != x.m.last.note {
		t.Fatal("another store stands there")
	}
}

// G10: of commits drawn at random, a death in each act, and behind that in each act of the same commit again: nothing leaks, and in the end it is committed.
func TestDiesInEachAct(t *testing.T) {
	r := rand.New(rand.NewSource(12))
	for range 60 {
		x := newPair(t, r)
		for range 4 {
			c := x.m.treeCommit(r)
			for act := 1; act <= len(c.fresh)+3; act++ {
				x.m.fuse = act
				wantErrno(t, "Arm", x.d.Arm(act), api.OK)
				x.commit(t, c)
				generation := x.m.last.generation
				x.crash(t, r)
				x.p = mounted(t, x.d)
				x.wantSame(t)
				x.wantAnswers(t)
				wantWhole(t, x)
				if x.m.last.generation > generation {
					c = x.m.treeCommit(r)
					break
				}
			}
			x.commit(t, c)
			x.wantSame(t)
		}
	}
}

// G10: each set of sectors of a head's block, and of a page's: the first sector of the head decides, alone.
func TestEachSetOfSectors(t *testing.T) {
	for sectors := range 256 {
		for act := 1; act <= 4; act++ {
			d, p := grown(t)
			wantErrno(t, "Arm", d.Arm(act), api.OK)
			five := page(5, body(460), 2, 3)
			wantCommit(t, p, []api.Page{five}, 5, n16, []int{4}, api.ErrDead)
			wantErrno(t, "Crash", d.Crash(keeps(d, sectors)), api.OK)
			two, three := born(page(2, "two"), 2), born(page(3, "three"), 2)
			if act == 4 && sectors%2 == 1 {
				wantMounted(t, d, 4, 5, n16, two, three, born(five, 4))
			} else {
				wantMounted(t, d, 3, 4, m16, two, three, born(page(4, "four", 2, 3), 3))
			}
		}
	}
}

// G10 leans on no CRC: what lay on a block, or on the other sectors of it, may make of a torn page a right one, of another Birth; nobody reaches it.
func TestTornPagesAreFree(t *testing.T) {
	for sectors := range 256 {
		old := page(5, body(300), 2, 3)
		l := stored(3, 4, page(2, "two"), page(3, "three"), page(4, "four", 2, 3), born(old, 2))
		d := loaded(t, l)
		p := mounted(t, d)
		wantErrno(t, "Arm", d.Arm(2), api.OK)
		wantCommit(t, p, []api.Page{old}, 5, m16, []int{4}, api.ErrDead)
		wantErrno(t, "Crash", d.Crash(keeps(d, sectors)), api.OK)
		wantMounted(t, d, 3, 4, n16, page(2, "two"), page(3, "three"), page(4, "four", 2, 3))
		p = mounted(t, d)
		wantNext(t, p, 5, 6, 7)
		wantCommit(t, p, []api.Page{old}, 5, m16, []int{4}, api.OK)
		wantMounted(t, d, 4, 5, m16, page(2, "two"), page(3, "three"), born(old, 4))
	}
}

// G10: a death while a store that died is used again, and again: the head that did not last is written over.
func TestDiesAgainAndAgain(t *testing.T) {
	d, p := grown(t)
	for n := range 40 {
		wantErrno(t, "Arm", d.Arm(4), api.OK)
		wantCommit(t, p, []api.Page{page(5, body(n))}, 5, n16, []int{2, 3, 4}, api.ErrDead)
		wantErrno(t, "Crash", d.Crash(keeps(d, 2*n)), api.OK)
		p = mounted(t, d)
		wantLast(t, p, 3, 4, m16, 2, 3, 4)
		wantRoom(t, p, 3, 0)
	}
	wantCommit(t, p, []api.Page{page(5, "five")}, 5, n16, []int{2, 3, 4}, api.OK)
	wantMounted(t, d, 4, 5, n16, born(page(5, "five"), 4))
}

// Pagers of several disks know nothing of one another, also if the disks were alike at first.
func TestTwoDisksInTurns(t *testing.T) {
	r := rand.New(rand.NewSource(13))
	for range 60 {
		l := []*pair{newPair(t, r), newPair(t, r)}
		for range 80 {
			x := l[r.Intn(len(l))]
			x.step(t, r, true)
			if x.m.doubt {
				x.crash(t, r)
				x.p = mounted(t, x.d)
			} else if len(l) < 4 && !x.m.dead && r.Intn(20) == 0 {
				d := loaded(t, x.d.Blocks())
				l = append(l, &pair{d, mounted(t, d), newModel(d.Size(), x.m.last)})
			}
			for _, y := range l {
				y.wantSame(t)
			}
		}
	}
}

// P10, G8: what a pin keeps is read as it was, whatever is committed then.
func TestPinnedIsAsItWas(t *testing.T) {
	r := rand.New(rand.NewSource(14))
	for range 100 {
		x := newPair(t, r)
		for range 10 {
			x.commit(t, x.m.treeCommit(r))
		}
		pin, errno := x.m.pin()
		wantPin(t, x.p, pin, errno)
		was := x.m.last
		for range 30 {
			x.commit(t, x.m.treeCommit(r))
			for _, p := range was.pages {
				wantRead(t, x.p, p)
			}
		}
		wantErrno(t, "Unpin", x.p.Unpin(pin), x.m.unpin(pin))
		wantRoom(t, x.p, x.m.size-2-len(x.m.last.pages), 0)
	}
}

// The chapter's examples 1 and 2.
func TestExamples1And2(t *testing.T) {
	d := fresh(t, 8)
	wantErrno(t, "Format", pager.Format(d, n16), api.OK)
	if d.Acts() != 3 {
		t.Errorf("%d acts", d.Acts())
	}
	wantErrno(t, "Format", pager.Format(d, n16), api.ErrPagerThere)
	p := mounted(t, d)
	wantLast(t, p, 1, 0, n16)
	wantRoom(t, p, 6, 0)
	wantNext(t, p, 2, 3)
	wantNoNext(t, p, 7, api.ErrPagerFull)
	wantNoRead(t, p, 2, api.ErrPagerNone)

	wantCommit(t, p, []api.Page{{Kind: 1, Number: 2, Body: "a"}}, 2, n16, nil, api.OK)
	if d.Acts() != 7 || d.Blocks()[0] != headOf(2, 2, 8, n16) {
		t.Errorf("%d acts", d.Acts())
	}
	wantLast(t, p, 2, 2, n16, 2)
	wantRoom(t, p, 5, 0)
	wantCommit(t, p, []api.Page{{Kind: 1, Number: 4, Body: "x"}}, 4, n16, nil, api.ErrPagerPage)
	wantPin(t, p, 1, api.OK)
	wantCommit(t, p, []api.Page{{Kind: 1, Number: 3, Body: "b"}}, 3, n16, []int{2}, api.OK)
	wantLast(t, p, 3, 3, n16, 3)
	wantRoom(t, p, 4, 1)
	wantNext(t, p, 4)
	wantRead(t, p, api.Page{Kind: 1, Number: 2, Birth: 2, Body: "a"})
	wantErrno(t, "Unpin", p.Unpin(1), api.OK)
	wantNext(t, p, 2)
	wantNoRead(t, p, 2, api.ErrPagerNone)
	wantErrno(t, "Unpin", p.Unpin(1), api.ErrPagerPins)
}

// The chapter's example 3.
func TestExample3(t *testing.T) {
	for sectors, want := range []int{2, 3} {
		d, p := laid(t)
		wantCommit(t, p, []api.Page{{Kind: 1, Number: 2, Body: "a"}}, 2, n16, nil, api.OK)
		wantErrno(t, "Arm", d.Arm(4), api.OK)
		wantCommit(t, p, []api.Page{{Kind: 1, Number: 3, Body: "b"}}, 3, n16, []int{2}, api.ErrDead)
		wantErrno(t, "Crash", d.Crash([]api.Keep{{N: 0, Sectors: sectors}}), api.OK)
		wantLast(t, mounted(t, d), want, want, n16, want)
	}
}
