package pager_test

import (
	"maps"
	"slices"
	"testing"

	"latchkey/api"
	"latchkey/disk"
	"latchkey/pager"
)

// wantRefused holds against why a commit of a grown store is refused; nothing is changed then.
func wantRefused(t *testing.T, d *disk.Disk, p *pager.Pager, c commit, want api.Errno) {
	t.Helper()
	was, doubt := stateOf(d), p.Doubt()
	wantCommit(t, p, c.fresh, c.root, c.note, c.gone, want)
	wantUntouched(t, "Commit", d, was)
	wantLast(t, p, 3, 4, m16, 2, 3, 4)
	wantRoom(t, p, 3, 0)
	if want != api.ErrDead && p.Doubt() != doubt {
		t.Fatal("another doubt")
	}
}

// wrongAlone are commits that may not be, whatever stands on the disk: ErrPagerPage, ahead of a death.
func wrongAlone() []commit {
	five, six := page(5, "five"), page(6, "six")
	var l []commit
	for _, n := range []int{0, 256, -1, least, most} {
		l = append(l, commit{fresh: []api.Page{{Kind: n, Number: 5}}, root: 5})
	}
	for _, n := range []int{1, 4096, 0, -1, least, most, 1<<32 + 5} {
		l = append(l, commit{fresh: []api.Page{page(n, "a")}, root: 4}, commit{fresh: []api.Page{five, page(6, "a", n)}, root: 4})
	}
	for links, size := range map[int]int{0: 489, 1: 485, 122: 1, 123: 0, 256: 0} {
		l = append(l, commit{fresh: []api.Page{page(5, body(size), slices.Repeat([]int{2}, links)...)}, root: 5})
	}
	return append(l,
		commit{fresh: []api.Page{six, five}, root: 5},
		commit{fresh: []api.Page{five, five}, root: 5},
		commit{fresh: []api.Page{five, six, six}, root: 5},
		commit{fresh: []api.Page{five, six, {Kind: 0, Number: 7}}, root: 5},
		commit{root: 4, gone: []int{3, 2}},
		commit{root: 4, gone: []int{2, 2}},
		commit{root: 4, gone: []int{2, 3, 3}},
		commit{root: 4, gone: []int{most, least}},
		commit{root: 0, gone: []int{2, 4, 3}},
	)
}

// wrongHere are commits that may not be as the grown store is: ErrPagerPage, behind a death.
func wrongHere() []commit {
	five, six, seven := page(5, "five"), page(6, "six"), page(7, "seven")
	l := []commit{
		{fresh: []api.Page{six}, root: 6},
		{fresh: []api.Page{seven}, root: 7},
		{fresh: []api.Page{five, seven}, root: 5},
		{fresh: []api.Page{six, seven}, root: 6},
		{fresh: []api.Page{page(2, "a")}, root: 2},
		{fresh: []api.Page{page(4, "a"), five}, root: 5},
		{fresh: []api.Page{page(4, "a")}, root: 4, gone: []int{4}},
		{fresh: []api.Page{five, six, seven, page(8, "a")}, root: 5},
		{fresh: []api.Page{five, six, seven, page(4095, "a")}, root: 5},
		{fresh: []api.Page{page(8, "a")}, root: 4},
		{fresh: []api.Page{page(5, "a", 6)}, root: 5},
		{fresh: []api.Page{page(5, "a", 8)}, root: 5},
		{fresh: []api.Page{page(5, "a", 4095)}, root: 5},
		{fresh: []api.Page{page(5, "a", 2, 3, 2, 7)}, root: 5},
		{fresh: []api.Page{five, page(6, "a", 5, 2)}, root: 6, gone: []int{2}},
		{fresh: []api.Page{page(5, "a", 4)}, root: 5, gone: []int{4}},
		{fresh: []api.Page{five}, root: 4, gone: []int{2, 3, 4}},
		{root: 4, gone: []int{4}},
	}
	for _, n := range []int{5, 6, 7, 8, 1, -1, 4095, 4096, least, least + 4, most, 1<<32 + 4} {
		l = append(l, commit{root: n})
	}
	for _, n := range []int{5, 7, 8, 0, 1, -1, 4096, least, most, 1<<32 + 2} {
		l = append(l, commit{root: 4, gone: []int{n}}, commit{fresh: []api.Page{five}, root: 5, gone: slices.Sorted(slices.Values([]int{2, n}))})
	}
	return l
}

// G7: a note that has not 16 bytes, ahead of all else.
func TestCommitNote(t *testing.T) {
	for _, dead := range []bool{false, true} {
		d, p := grown(t)
		if dead {
			kill(t, d)
		}
		for _, note := range wrongNotes() {
			for _, c := range slices.Concat(wrongAlone(), wrongHere(), []commit{{root: 4}}) {
				c.note = note
				wantRefused(t, d, p, c, api.ErrArg)
			}
		}
		if p.Doubt() {
			t.Error("a doubt without an ErrDead")
		}
	}
}

// G7: what may not be, whatever stands on the disk, ahead of a death and of a doubt.
func TestCommitWrongAlone(t *testing.T) {
	d, p := grown(t)
	for _, c := range wrongAlone() {
		c.note = n16
		wantRefused(t, d, p, c, api.ErrPagerPage)
	}
	kill(t, d)
	for _, c := range wrongAlone() {
		c.note = n16
		wantRefused(t, d, p, c, api.ErrPagerPage)
	}
	if p.Doubt() {
		t.Fatal("a doubt without an ErrDead")
	}
	wantNoNext(t, p, 0, api.ErrDead)
	revive(t, d)
	for _, c := range wrongAlone() {
		c.note = n16
		wantRefused(t, d, p, c, api.ErrPagerPage)
	}
}

// G7: what may not be as the store is, behind a death.
func TestCommitWrongHere(t *testing.T) {
	for _, c := range wrongHere() {
		d, p := grown(t)
		c.note = n16
		wantRefused(t, d, p, c, api.ErrPagerPage)
		kill(t, d)
		wantRefused(t, d, p, c, api.ErrDead)
		revive(t, d)
		wantRefused(t, d, p, c, api.ErrDead)
		if !p.Doubt() {
			t.Fatal("no doubt behind an ErrDead")
		}
	}
}

// G7: what a pin holds is not reached: it is no root, none is linked to it, it is not gone, and it is not free.
func TestCommitOfHeld(t *testing.T) {
	_, p := grown(t)
	wantPin(t, p, 1, api.OK)
	wantCommit(t, p, nil, 2, n16, []int{3, 4}, api.OK)
	wantRoom(t, p, 3, 2)
	for _, c := range []commit{
		{root: 3},
		{root: 2, gone: []int{3}},
		{fresh: []api.Page{page(5, "a", 3)}, root: 5},
		{fresh: []api.Page{page(3, "a")}, root: 3},
		{fresh: []api.Page{page(3, "a"), page(5, "b")}, root: 3},
	} {
		wantCommit(t, p, c.fresh, c.root, n16, c.gone, api.ErrPagerPage)
	}
	wantErrno(t, "Unpin", p.Unpin(1), api.OK)
	wantCommit(t, p, []api.Page{page(3, "a", 2)}, 3, n16, nil, api.OK)
}

// G7: the last generation: nothing is committed any more, behind all other errors.
func TestCommitWorn(t *testing.T) {
	for _, generation := range []int{worn - 2, worn - 1, worn} {
		d := loaded(t, stored(generation, 2, page(2, "a")))
		p := mounted(t, d)
		for generation < worn {
			generation++
			wantCommit(t, p, nil, 2, m16, nil, api.OK)
			wantLast(t, p, generation, 2, m16, 2)
		}
		was := stateOf(d)
		for _, c := range []commit{{root: 2}, {root: 0, gone: []int{2}}, {fresh: []api.Page{page(3, "b")}, root: 3, gone: []int{2}}} {
			wantCommit(t, p, c.fresh, c.root, n16, c.gone, api.ErrPagerWorn)
		}
		wantCommit(t, p, nil, 2, n16[:15], nil, api.ErrArg)
		wantCommit(t, p, nil, 2, n16, []int{2, 2}, api.ErrPagerPage)
		wantCommit(t, p, nil, 3, n16, nil, api.ErrPagerPage)
		wantCommit(t, p, []api.Page{page(4, "b")}, 2, n16, nil, api.ErrPagerPage)
		wantUntouched(t, "Commit", d, was)
		if p.Generation() != worn || p.Root() != 2 || p.Doubt() {
			t.Error("a refused commit has changed something")
		}
		wantRead(t, p, page(2, "a"))
		kill(t, d)
		wantCommit(t, p, nil, 2, n16, nil, api.ErrDead)
	}
}

// G7: a page that is born in the last generation.
func TestCommitLastBirth(t *testing.T) {
	d := loaded(t, stored(worn-1, 0))
	p := mounted(t, d)
	wantCommit(t, p, []api.Page{page(2, "a")}, 2, m16, nil, api.OK)
	wantMounted(t, d, worn, 2, m16, born(page(2, "a"), worn))
}

// done is a commit with what it does, act by act.
type done struct {
	commit
	acts []api.Write // a Sync stands as a Write of the block -1
}

// rightOnes are commits of a grown store that may be.
func rightOnes() []done {
	sync := api.Write{Block: -1}
	five, six, seven := page(5, "five", 2, 3), page(6, "six", 5), page(7, "seven", 4, 4, 7)
	head := func(root int) api.Write { return api.Write{Block: 0, Data: headOf(4, root, 8, n16)} }
	written := func(p api.Page) api.Write { return api.Write{Block: p.Number, Data: blockOf(born(p, 4))} }
	return []done{
		{commit{root: 4}, []api.Write{sync, head(4), sync}},
		{commit{root: 0}, []api.Write{sync, head(0), sync}},
		{commit{root: 0, gone: []int{2, 3, 4}}, []api.Write{sync, head(0), sync}},
		{commit{root: 2, gone: []int{3, 4}}, []api.Write{sync, head(2), sync}},
		{commit{fresh: []api.Page{five}, root: 5, gone: []int{4}}, []api.Write{written(five), sync, head(5), sync}},
		{commit{fresh: []api.Page{five, six}, root: 6, gone: []int{4}}, []api.Write{written(five), written(six), sync, head(6), sync}},
		{commit{fresh: []api.Page{five, six, seven}, root: 4}, []api.Write{written(five), written(six), written(seven), sync, head(4), sync}},
		{commit{fresh: []api.Page{born(five, 0), born(six, worn+1), born(seven, least)}, root: 7}, []api.Write{written(five), written(six), written(seven), sync, head(7), sync}},
	}
}

// G7: the acts of a commit that is answered OK, and what it leaves.
func TestCommitActs(t *testing.T) {
	for _, c := range rightOnes() {
		d, p := grown(t)
		want, acts := d.Blocks(), d.Acts()
		m := newModel(8, store{3, 4, m16, map[int]api.Page{2: {}, 3: {}, 4: {}}})
		s, ok := m.made(c.commit)
		if !ok {
			t.Fatalf("the commit %v may not be", c.commit)
		}
		wantCommit(t, p, c.fresh, c.root, n16, c.gone, api.OK)
		for _, w := range c.acts {
			if w.Block >= 0 {
				want[w.Block] = w.Data
			}
		}
		if !slices.Equal(d.Blocks(), want) || d.Acts() != acts+len(c.acts) {
			t.Errorf("%v: other blocks, or %d acts", c.commit, d.Acts()-acts)
		}
		wantPending(t, d)
		wantLast(t, p, 4, c.root, n16, slices.Sorted(maps.Keys(s.pages))...)
		wantRoom(t, p, 6-len(s.pages), 0)
		for _, x := range c.fresh {
			wantRead(t, p, born(x, 4))
		}
		if p.Doubt() {
			t.Error("a doubt without an ErrDead")
		}
	}
}

// played is what is pending, and what lasts, behind so many acts.
func played(l []string, acts []api.Write) (lasting []string, pending []api.Write) {
	lasting = slices.Clone(l)
	for _, w := range acts {
		if w.Block >= 0 {
			pending = append(pending, w)
			continue
		}
		for _, w := range pending {
			lasting[w.Block] = w.Data
		}
		pending = nil
	}
	return lasting, pending
}

// G7: the acts in their order, with a death in each of them, behind which the pager is in doubt, and says what it said.
func TestCommitDies(t *testing.T) {
	for _, c := range rightOnes() {
		for n := range c.acts {
			d, p := grown(t)
			lasting, pending := played(d.Blocks(), c.acts[:n])
			acts := d.Acts()
			wantErrno(t, "Arm", d.Arm(n+1), api.OK)
			wantCommit(t, p, c.fresh, c.root, n16, c.gone, api.ErrDead)
			wantPending(t, d, pending...)
			if !slices.Equal(d.Blocks(), lasting) || d.Acts() != acts+n {
				t.Fatalf("%v dies in the act %d: %d acts", c.commit, n+1, d.Acts()-acts)
			}
			wantLast(t, p, 3, 4, m16, 2, 3, 4)
			wantRoom(t, p, 3, 0)
			wantInDoubt(t, p)
			revive(t, d)
			wantInDoubt(t, p)
			wantLast(t, p, 3, 4, m16, 2, 3, 4)
			if n < len(c.acts)-1 {
				wantLast(t, mounted(t, d), 3, 4, m16, 2, 3, 4)
			}
		}
	}
}

// G7: heads take turns, so that the one ahead lasts until the next one does.
func TestHeadsTakeTurns(t *testing.T) {
	d, p := laid(t)
	for generation := 2; generation < 9; generation++ {
		other := d.Blocks()[1-generation%2]
		wantCommit(t, p, nil, 0, m16, nil, api.OK)
		l := d.Blocks()
		if l[generation%2] != headOf(generation, 0, 8, m16) || l[1-generation%2] != other {
			t.Errorf("the generation %d stands on the wrong block", generation)
		}
	}
}

// G7: whether what is reached is what the root reaches is not looked at; a later Mount may refuse it, or reach fewer.
func TestCommitNoTree(t *testing.T) {
	d, p := laid(t)
	wantCommit(t, p, []api.Page{page(2, "a"), page(3, "b")}, 3, n16, nil, api.OK)
	wantLast(t, p, 2, 3, n16, 2, 3)
	wantLast(t, mounted(t, d), 2, 3, n16, 3)
	wantCommit(t, p, []api.Page{page(4, "c", 2, 2, 4)}, 4, n16, nil, api.OK)
	wantLast(t, p, 3, 4, n16, 2, 3, 4)
	wantMountRefused(t, d, api.ErrPagerForm)
	wantCommit(t, p, nil, 4, n16, []int{2}, api.OK)
	wantNext(t, p, 2, 5)
	wantCommit(t, p, []api.Page{page(2, "d", 3)}, 2, m16, []int{4}, api.OK)
	wantMounted(t, d, 5, 2, m16, born(page(2, "d", 3), 5), born(page(3, "b"), 2))
}

// G7: a commit that fills the greatest disk, and one that empties it.
func TestCommitGreat(t *testing.T) {
	d := fresh(t, 4096)
	wantErrno(t, "Format", pager.Format(d, n16), api.OK)
	p := mounted(t, d)
	var l []api.Page
	for n := 2; n < 4096; n++ {
		l = append(l, page(n, "a"))
		if n > 2 {
			l[n-2].Links = []int{n - 1}
		}
	}
	acts := d.Acts()
	wantCommit(t, p, l, 4095, n16, nil, api.OK)
	if d.Acts() != acts+4097 || p.Free() != 0 || len(p.Reached()) != 4094 {
		t.Errorf("%d acts, %d free", d.Acts()-acts, p.Free())
	}
	wantNoNext(t, p, 1, api.ErrPagerFull)
	if q := mounted(t, d); !slices.Equal(q.Reached(), p.Reached()) {
		t.Error("what is mounted reaches others")
	}
	wantCommit(t, p, nil, 0, m16, p.Reached(), api.OK)
	wantRoom(t, p, 4094, 0)
}
