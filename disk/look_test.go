package disk_test

import (
	"math/rand"
	"slices"
	"testing"

	"latchkey/api"
	"latchkey/disk"
)

// look asks for all that may be asked of a dead disk, too.
func look(d *disk.Disk) (int, bool, int, []api.Write, []string) {
	return d.Size(), d.Dead(), d.Acts(), d.Pending(), d.Blocks()
}

// D5: each of these, of a disk that lives and of one that is dead; asking changes nothing.
func TestLook(t *testing.T) {
	d := loaded(t, images(9))
	wantErrno(t, "Write", d.Write(1, of("a")), api.OK)
	wantErrno(t, "Sync", d.Sync(), api.OK)
	wantErrno(t, "Write", d.Write(8, of("b")), api.OK)
	wantErrno(t, "Write", d.Write(0, of("c")), api.OK)
	want := images(9)
	want[1] = of("a")
	pending := []api.Write{{Block: 0, Data: of("c")}, {Block: 8, Data: of("b")}}
	wantErrno(t, "Arm", d.Arm(1), api.OK)
	for _, dead := range []bool{false, true} {
		if dead {
			wantErrno(t, "Sync", d.Sync(), api.ErrDead)
		}
		for range 3 {
			size, gone, acts, l, blocks := look(d)
			if size != 9 || gone != dead || acts != 4 || !slices.Equal(l, pending) || !slices.Equal(blocks, want) {
				t.Fatalf("Size: %d, Dead: %v, Acts: %d, Pending: %d, Blocks: %d", size, gone, acts, len(l), len(blocks))
			}
		}
	}
	wantErrno(t, "Crash", d.Crash([]api.Keep{{N: 1, Sectors: 255}}), api.OK)
	want[8] = of("b")
	size, gone, acts, l, blocks := look(d)
	if size != 9 || gone || acts != 4 || len(l) != 0 || !slices.Equal(blocks, want) {
		t.Fatalf("Size: %d, Dead: %v, Acts: %d, Pending: %d, Blocks: %d", size, gone, acts, len(l), len(blocks))
	}
}

// D5: Pending is by rising blocks, whatever the order of the Writes.
func TestPendingRises(t *testing.T) {
	r := rand.New(rand.NewSource(10))
	for range 200 {
		d := loaded(t, images(40))
		blocks := r.Perm(40)[:r.Intn(41)]
		for _, n := range blocks {
			wantErrno(t, "Write", d.Write(n, marked(n)), api.OK)
		}
		for range r.Intn(5) {
			if len(blocks) > 0 {
				n := blocks[r.Intn(len(blocks))]
				wantErrno(t, "Write", d.Write(n, marked(n)), api.OK)
			}
		}
		slices.Sort(blocks)
		var want []api.Write
		for _, n := range blocks {
			want = append(want, api.Write{Block: n, Data: marked(n)})
		}
		wantPending(t, d, want...)
	}
}

// D5: Pending of three blocks in each order of their Writes.
func TestPendingOrders(t *testing.T) {
	for _, l := range [][]int{{1, 4, 6}, {1, 6, 4}, {4, 1, 6}, {4, 6, 1}, {6, 1, 4}, {6, 4, 1}} {
		d := fresh(t)
		for _, n := range l {
			wantErrno(t, "Write", d.Write(n, marked(n)), api.OK)
		}
		wantPending(t, d, api.Write{Block: 1, Data: marked(1)}, api.Write{Block: 4, Data: marked(4)}, api.Write{Block: 6, Data: marked(6)})
	}
}

// D5: Acts goes on behind a Crash from where it was; the act in which the disk died is none of them.
func TestActsBehindCrash(t *testing.T) {
	d := killed(t, 1, 2)
	wantState(t, d, true, 2)
	wantErrno(t, "Crash", d.Crash(nil), api.OK)
	wantState(t, d, false, 2)
	wantErrno(t, "Sync", d.Sync(), api.OK)
	wantState(t, d, false, 3)
	wantErrno(t, "Crash", d.Crash(nil), api.OK)
	wantErrno(t, "Crash", d.Crash([]api.Keep{{N: 0}}), api.ErrDiskKeep)
	wantState(t, d, false, 3)
}

// D5: what these give out is new memory: whoever writes into it, or lets it grow, changes nothing.
func TestLookedAtIsNew(t *testing.T) {
	d := loaded(t, images(8))
	for _, n := range []int{5, 2, 3} {
		wantErrno(t, "Write", d.Write(n, marked(n)), api.OK)
	}
	m := newModel(images(8))
	for _, n := range []int{5, 2, 3} {
		m.write(n, marked(n))
	}
	for range 3 {
		pending, blocks := d.Pending(), d.Blocks()
		for n := range pending {
			pending[n] = api.Write{Block: 7, Data: "gone"}
		}
		for n := range blocks {
			blocks[n] = "gone"
		}
		_ = append(pending[:1], api.Write{}, api.Write{}, api.Write{}, api.Write{})
		_ = append(blocks[:1], "a", "b", "c")
		wantSame(t, d, m)
	}
	late := d.Pending()
	wantErrno(t, "Write", d.Write(2, of("n")), api.OK)
	wantErrno(t, "Write", d.Write(0, of("n")), api.OK)
	if late[0] != (api.Write{Block: 2, Data: marked(2)}) || len(late) != 3 {
		t.Errorf("an earlier list of what was pending became %#v", late)
	}
	blocks := d.Blocks()
	wantErrno(t, "Sync", d.Sync(), api.OK)
	if !slices.Equal(blocks, images(8)) {
		t.Error("an earlier list of blocks changed")
	}
}
