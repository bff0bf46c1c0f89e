package table_test

import (
	"fmt"
	"slices"
	"testing"

	"latchkey/api"
	"latchkey/disk"
	"latchkey/pager"
	"latchkey/table"
	"latchkey/tree"
)

// wantActs is that a commit is answered so, by so many acts.
func wantActs(t *testing.T, d *disk.Disk, x *table.Table, want api.Errno, acts int) {
	t.Helper()
	was := d.Acts()
	if errno := x.Commit(); errno != want || d.Acts() != was+acts {
		t.Fatalf("Commit: %d, %d acts; want %d, %d", errno, d.Acts()-was, want, acts)
	}
}

// B10: pages, Sync, the head, Sync; also if nothing was put.
func TestCommitActs(t *testing.T) {
	d, x := began(t, 16)
	wantActs(t, d, x, api.OK, 3)
	if x.Pager().Generation() != 2 || x.Pager().Root() != 0 {
		t.Fatalf("the generation %d, the root %d", x.Pager().Generation(), x.Pager().Root())
	}
	wantErrno(t, "PutClient", x.PutClient(someClient("app")), api.OK)
	wantActs(t, d, x, api.OK, 4)
	wantActs(t, d, x, api.OK, 3)
	wantErrno(t, "PutClient", x.PutClient(someClient("app")), api.OK)
	wantActs(t, d, x, api.OK, 3) // that is what stands
	x.See(70)
	wantActs(t, d, x, api.OK, 3)
	wantNext(t, "an ID", x, 1)
	wantActs(t, d, x, api.OK, 3)
	wantTable(t, "all that", d, lists{clients: []api.Client{someClient("app")}, next: 2}, 70)
}

// B10: nothing of what was begun is on the disk ahead of it.
func TestNothingAheadOfCommit(t *testing.T) {
	b := bothAtHome(t)
	acts, blocks := b.d.Acts(), b.d.Blocks()
	b.calls(nextID(), see(5000), putClient(publicClient("new")), putFamily(someFamily(20, 21, 0, "zed")), putToken(current(21, 20, 1)), removeFamily(5), removeCode(14), removeKey(1), removeEvent(3), putEvent(someEvent(9)), putChain(someChain(0, 4)), putCode(freshCode(22)), putKey(someKey(9)))
	if b.d.Acts() != acts || !slices.Equal(b.d.Blocks(), blocks) || len(b.d.Pending()) > 0 {
		t.Fatalf("%d acts ahead of Commit", b.d.Acts()-acts)
	}
	wantTable(t, "the other table", b.d, home(), homeTime)
	b.calls(abort())
	if b.d.Acts() != acts || !slices.Equal(b.d.Blocks(), blocks) {
		t.Fatalf("%d acts of Abort", b.d.Acts()-acts)
	}
	wantHas(t, "forgotten", b.x, newPlain(home(), 5000))
	wantActs(t, b.d, b.x, api.OK, 3)
}

// B10: Abort goes back to the last commit, not to the beginning.
func TestAbort(t *testing.T) {
	b := bothAtHome(t)
	b.calls(abort(), putClient(publicClient("new")), nextID(), commit(), putClient(publicClient("newer")), removeFamily(5), nextID(), see(4000), abort(), abort(), nextID(), abort())
	if b.x.Now() != 4000 {
		t.Fatalf("Now: %d", b.x.Now())
	}
	b.calls(removeFamily(3), commit())
	b.reopen()
	b.calls(removeFamily(5), abort(), putFamily(home().families[0]), abort(), putToken(current(20, 5, 3)), putToken(current(20, 5, 4)), abort())
}

// full is a disk of eight blocks on which clients stand, in two leaves: there is room for one node more, and no room for two leaves.
func fullDisk(t *testing.T) *both {
	t.Helper()
	l := lists{next: 5}
	for n := range 7 {
		l.clients = append(l.clients, someClient(fmt.Sprintf("client%d", n)))
	}
	b := bothOf(t, 8, l, 10)
	if b.x.Pager().Free() != 3 {
		t.Fatalf("the test is wrong: %d are free", b.x.Pager().Free())
	}
	return b
}

// B10: no room: nothing is changed, and all that was begun is there still.
func TestCommitFull(t *testing.T) {
	b := fullDisk(t)
	for n := range 7 {
		c := someClient(fmt.Sprintf("client%d", n))
		c.Old, c.Until, c.Scope = digest(n), n, []string{"aaaaaaaaaaaaaaaa", "bbbbbbbbbbbbbbbb", "cccccccccccccccc"}
		b.call(putClient(c))
	}
	b.calls(nextID(), nextID(), see(60))
	blocks := b.d.Blocks()
	for range 3 {
		wantActs(t, b.d, b.x, api.ErrPagerFull, 0)
		wantHas(t, "what was begun", b.x, b.p)
		if !slices.Equal(b.d.Blocks(), blocks) || b.x.Pager().Generation() != 2 || b.x.Pager().Doubt() {
			t.Fatal("something is changed")
		}
	}
	wantNext(t, "the IDs stay given", b.x, 7)
	b.p.ID()
	wantStands(t, "the disk", b.d, b.p.stands, 10)
	for n := 1; n < 7; n++ {
		b.call(putClient(someClient(fmt.Sprintf("client%d", n)))) // as it stands: less is to be written
	}
	b.calls(commit())
	b.reopen()
	wantNext(t, "noted", b.x, 8)
}

// B10: no room, then Abort: all is as it stood.
func TestCommitFullAndAbort(t *testing.T) {
	b := fullDisk(t)
	for n := range 7 {
		b.call(putClient(publicClient(fmt.Sprintf("client%d", n))))
		b.call(putCode(freshCode(1 + n)))
	}
	b.calls(nextID(), see(60))
	wantActs(t, b.d, b.x, api.ErrPagerFull, 0)
	b.calls(abort())
	wantActs(t, b.d, b.x, api.OK, 3)
	wantNext(t, "behind Abort", b.x, 5)
	wantStands(t, "behind Abort", b.d, b.p.stands, 60)
}

// B10: no room for a pin keeps it; when that is gone, what was begun is committed.
func TestCommitFullByPin(t *testing.T) {
	b := fullDisk(t)
	_, errno := b.x.Pager().Pin()
	wantErrno(t, "Pin", errno, api.OK)
	b.call(putClient(publicClient("client0")))
	b.calls(commit())
	b.call(putClient(publicClient("client6")))
	wantActs(t, b.d, b.x, api.ErrPagerFull, 0)
	wantHas(t, "what was begun", b.x, b.p)
	wantErrno(t, "Unpin", b.x.Pager().Unpin(1), api.OK)
	b.calls(commit())
	b.reopen()
}

// B4 to B10: no page is free: all is asked and begun as ever, and a commit that writes no page needs none.
func TestNoPageFree(t *testing.T) {
	pages := len(reached(t, built(t, 64, home(), homeTime)))
	b := bothOf(t, 2+pages, home(), homeTime)
	if b.x.Pager().Free() != 0 {
		t.Fatalf("the test is wrong: %d are free", b.x.Pager().Free())
	}
	b.calls(commit())
	for _, c := range asking() {
		if c.what != commit().what {
			b.call(c)
		}
	}
	wantHas(t, "what was begun", b.x, b.p)
	wantActs(t, b.d, b.x, api.ErrPagerFull, 0)
	wantHas(t, "what was begun", b.x, b.p)
	b.calls(abort(), nextID(), commit())
	b.reopen()
}

// B10: no generation is left: nothing is changed, and all that was begun is there still.
func TestCommitWorn(t *testing.T) {
	b := bothAtHome(t)
	b.d = aged(t, b.d, worn)
	b.x = opened(t, b.d)
	blocks := b.d.Blocks()
	wantActs(t, b.d, b.x, api.ErrPagerWorn, 0)
	b.calls(putClient(publicClient("new")), removeFamily(5), nextID(), see(2000))
	for range 3 {
		wantActs(t, b.d, b.x, api.ErrPagerWorn, 0)
		wantHas(t, "what was begun", b.x, b.p)
		if !slices.Equal(b.d.Blocks(), blocks) || b.x.Pager().Doubt() {
			t.Fatal("something is changed")
		}
	}
	wantNext(t, "the IDs stay given", b.x, 301)
	b.p.ID()
	b.calls(abort())
	wantTable(t, "the disk", b.d, home(), homeTime)
	b.d = aged(t, built(t, 64, home(), homeTime), worn-1)
	b.x = opened(t, b.d)
	b.p = newPlain(home(), homeTime)
	b.calls(putClient(publicClient("new")), commit(), removeFamily(5))
	wantActs(t, b.d, b.x, api.ErrPagerWorn, 0)
	wantHas(t, "what was begun", b.x, b.p)
	b.reopen()
}

// B10: ErrPagerFull is told ahead of ErrPagerWorn, and ErrDead ahead of both.
func TestCommitErrorsInOrder(t *testing.T) {
	b := fullDisk(t)
	b.d = aged(t, b.d, worn)
	b.x = opened(t, b.d)
	for n := range 7 {
		b.call(putClient(publicClient(fmt.Sprintf("client%d", n))))
		b.call(putCode(freshCode(1 + n)))
	}
	wantActs(t, b.d, b.x, api.ErrPagerFull, 0)
	kill(t, b.d)
	wantActs(t, b.d, b.x, api.ErrDead, 0)
}

// B10, B11: a death in each act, and each choice of sectors: what was, or what would be, as a whole.
func TestCommitDiesAtEachSector(t *testing.T) {
	t.Parallel()
	was := lists{clients: []api.Client{someClient("app")}, next: 2}
	image := built(t, 8, was, 10).Blocks()
	would := was.copied()
	would.clients[0], would.next = publicClient("app"), 3
	for act := 1; act <= 4; act++ {
		d := loaded(t, image)
		x := opened(t, d)
		x.See(20)
		wantNext(t, "an ID", x, 2)
		wantErrno(t, "PutClient", x.PutClient(publicClient("app")), api.OK)
		wantErrno(t, "Arm", d.Arm(act), api.OK)
		wantActs(t, d, x, api.ErrDead, act-1)
		if x.Abort(); !x.Pager().Doubt() {
			t.Fatal("the pager is not in doubt")
		}
		turned := 0
		crashes(t, d, 256, int64(act), func(what string, d *disk.Disk) {
			if opened(t, d).Now() == 20 {
				turned++
				wantStands(t, what, d, would, 20)
				return
			}
			wantStands(t, what, d, was, 10)
		})
		if (turned > 0) != (act == 4) {
			t.Errorf("death in the act %d: it is as it would be %d times", act, turned)
		}
	}
}

// mirror is a disk on which layer 11 alone does what a table's commits must do.
type mirror struct {
	d *disk.Disk
	p *pager.Pager
	x *tree.Tree
}

// mirrorOf begins as another disk.
func mirrorOf(t *testing.T, d *disk.Disk) *mirror {
	t.Helper()
	other := loaded(t, d.Blocks())
	p, errno := pager.Mount(other)
	wantErrno(t, "Mount", errno, api.OK)
	return &mirror{other, p, tree.Open(p)}
}

// commit lets just these pairs stand, with that note; of no avail if there is no room.
func (m *mirror) commit(t *testing.T, stood, pairs map[string]string, note string) api.Errno {
	t.Helper()
	for key := range stood {
		if _, stays := pairs[key]; !stays {
			_, errno := m.x.Delete(key)
			wantErrno(t, "Delete", errno, api.OK)
		}
	}
	for key, value := range pairs {
		if was, there := stood[key]; !there || was != value {
			wantErrno(t, "Put", m.x.Put(key, value), api.OK)
		}
	}
	errno := m.x.Commit(note)
	m.x.Abort()
	return errno
}

// B11: block by block what layer 11 makes of the pairs.
func TestCommitBlocks(t *testing.T) {
	b := bothAtHome(t)
	m := mirrorOf(t, b.d)
	for _, l := range [][]call{
		{putClient(publicClient("new"))},
		{removeFamily(5), removeFamily(3)},
		{nextID(), see(4000)},
		{putFamily(someFamily(3, 4, 900, "ann")), putToken(current(4, 3, 1)), putEvent(someEvent(6)), putChain(someChain(2, 7))},
		{removeFamily(10), removeCode(13), removeKey(256)},
	} {
		stood := b.p.stands.pairs(t)
		b.calls(l...)
		wantErrno(t, "the mirror", m.commit(t, stood, b.p.pairs(t), noteOf(t, b.p.next, b.p.now)), api.OK)
		acts := b.d.Acts()
		b.calls(commit())
		if !slices.Equal(b.d.Blocks(), m.d.Blocks()) || len(b.d.Pending()) > 0 {
			t.Fatalf("behind %s: other blocks, by %d acts", l[0].what, b.d.Acts()-acts)
		}
	}
}
