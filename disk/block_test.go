package disk_test

import (
	"slices"
	"strings"
	"testing"

	"latchkey/api"
	"latchkey/disk"
)

// noBlocks are numbers of no block of a disk of eight.
func noBlocks() []int {
	return []int{-1, 8, 9, -8, 4096, 1 << 32, 1<<32 + 3, least, least + 1, most - 1, most}
}

// wrongTexts are those that are no block's.
func wrongTexts() []string {
	return []string{"", "x", strings.Repeat("x", 64), of("x")[1:], of("x") + "x", of("x") + of("x")}
}

// D2: what is pending is read, else what lasts.
func TestRead(t *testing.T) {
	d := loaded(t, images(8))
	for n := range 8 {
		wantRead(t, d, n, images(8)[n])
	}
	wantErrno(t, "Write", d.Write(3, of("p")), api.OK)
	for n := range 8 {
		if n != 3 {
			wantRead(t, d, n, images(8)[n])
		}
	}
	wantRead(t, d, 3, of("p"))
	wantErrno(t, "Sync", d.Sync(), api.OK)
	wantRead(t, d, 3, of("p"))
	wantErrno(t, "Write", d.Write(3, of("q")), api.OK)
	wantRead(t, d, 3, of("q"))
	wantErrno(t, "Crash", d.Crash(nil), api.OK)
	wantRead(t, d, 3, of("p"))
}

// D2: there is no such block; reading is no act.
func TestReadNone(t *testing.T) {
	d := fresh(t)
	wantErrno(t, "Arm", d.Arm(1), api.OK)
	for _, n := range noBlocks() {
		wantNoRead(t, d, n, api.ErrDiskBlock)
	}
	for n := range 8 {
		wantRead(t, d, n, noughts)
	}
	wantState(t, d, false, 0)
}

// D2: of a dead disk nothing is read, whatever block is asked for.
func TestReadDead(t *testing.T) {
	d := killed(t, 3)
	for n := range 8 {
		wantNoRead(t, d, n, api.ErrDead)
	}
	for _, n := range noBlocks() {
		wantNoRead(t, d, n, api.ErrDead)
	}
	wantState(t, d, true, 1)
}

// D3: what is written is pending, and does not last; it is an act.
func TestWrite(t *testing.T) {
	d := fresh(t)
	for n := range 8 {
		wantErrno(t, "Write", d.Write(n, marked(n)), api.OK)
		wantState(t, d, false, n+1)
		wantRead(t, d, n, marked(n))
		wantLasting(t, d, nil)
		if l := d.Pending(); len(l) != n+1 || l[n] != (api.Write{Block: n, Data: marked(n)}) {
			t.Fatalf("pending: %#v", l)
		}
	}
}

// D3: a later Write stands in the place of what was pending of that block, and leaves the others'.
func TestWriteAgain(t *testing.T) {
	d := fresh(t)
	for _, n := range []int{2, 5, 0} {
		wantErrno(t, "Write", d.Write(n, marked(n)), api.OK)
	}
	wantErrno(t, "Write", d.Write(5, of("a")), api.OK)
	wantErrno(t, "Write", d.Write(5, of("b")), api.OK)
	wantErrno(t, "Write", d.Write(0, marked(0)), api.OK)
	wantPending(t, d, api.Write{Block: 0, Data: marked(0)}, api.Write{Block: 2, Data: marked(2)}, api.Write{Block: 5, Data: of("b")})
	wantState(t, d, false, 6)
	wantRead(t, d, 5, of("b"))
	wantErrno(t, "Sync", d.Sync(), api.OK)
	wantLasting(t, d, map[int]string{0: marked(0), 2: marked(2), 5: of("b")})
}

// D3: a Write of what lasts already is pending, too.
func TestWriteSame(t *testing.T) {
	d := fresh(t)
	wantErrno(t, "Write", d.Write(4, noughts), api.OK)
	wantPending(t, d, api.Write{Block: 4, Data: noughts})
	wantState(t, d, false, 1)
}

// D3: each error of a Write alone; what is refused is no act, and changes nothing.
func TestWriteRefused(t *testing.T) {
	d := fresh(t)
	wantErrno(t, "Write", d.Write(2, of("p")), api.OK)
	wantErrno(t, "Arm", d.Arm(1), api.OK)
	for _, s := range wrongTexts() {
		wantErrno(t, "Write of another size", d.Write(2, s), api.ErrDiskSize)
	}
	for _, n := range noBlocks() {
		wantErrno(t, "Write of no block", d.Write(n, of("x")), api.ErrDiskBlock)
		for _, s := range wrongTexts() {
			wantErrno(t, "Write of another size of no block", d.Write(n, s), api.ErrDiskSize)
		}
	}
	wantState(t, d, false, 1)
	wantPending(t, d, api.Write{Block: 2, Data: of("p")})
	wantLasting(t, d, nil)
	wantErrno(t, "the act", d.Write(2, of("q")), api.ErrDead)
}

// D3: of a dead disk: the size ahead of the death, that ahead of the block.
func TestWriteDead(t *testing.T) {
	d := killed(t, 2)
	for _, s := range wrongTexts() {
		wantErrno(t, "Write of another size", d.Write(2, s), api.ErrDiskSize)
		for _, n := range noBlocks() {
			wantErrno(t, "Write of another size of no block", d.Write(n, s), api.ErrDiskSize)
		}
	}
	for _, n := range noBlocks() {
		wantErrno(t, "Write of no block", d.Write(n, of("x")), api.ErrDead)
	}
	wantErrno(t, "Write", d.Write(2, of("x")), api.ErrDead)
	wantErrno(t, "Write", d.Write(7, of("x")), api.ErrDead)
	wantState(t, d, true, 1)
	wantPending(t, d, api.Write{Block: 2, Data: marked(2)})
	wantLasting(t, d, nil)
}

// D3: Sync lets all that is pending last, and nothing else; it is an act.
func TestSync(t *testing.T) {
	d := loaded(t, images(8))
	for _, n := range []int{7, 1, 4} {
		wantErrno(t, "Write", d.Write(n, marked(n)), api.OK)
	}
	wantErrno(t, "Sync", d.Sync(), api.OK)
	wantState(t, d, false, 4)
	wantPending(t, d)
	want := images(8)
	for _, n := range []int{7, 1, 4} {
		want[n] = marked(n)
	}
	for n, s := range d.Blocks() {
		if s != want[n] {
			t.Fatalf("of the block %d %q lasts", n, s)
		}
		wantRead(t, d, n, want[n])
	}
}

// D3: a Sync with nothing pending is an act all the same.
func TestSyncOfNothing(t *testing.T) {
	d := loaded(t, images(8))
	for n := range 5 {
		wantErrno(t, "Sync", d.Sync(), api.OK)
		wantState(t, d, false, n+1)
	}
	for n, s := range d.Blocks() {
		if s != images(8)[n] {
			t.Fatalf("of the block %d %q lasts", n, s)
		}
	}
	wantErrno(t, "Arm", d.Arm(1), api.OK)
	wantErrno(t, "Sync", d.Sync(), api.ErrDead)
	wantState(t, d, true, 5)
}

// D3: a Sync of a dead disk.
func TestSyncDead(t *testing.T) {
	d := killed(t, 2)
	for range 3 {
		wantErrno(t, "Sync", d.Sync(), api.ErrDead)
	}
	wantState(t, d, true, 1)
	wantPending(t, d, api.Write{Block: 2, Data: marked(2)})
	wantLasting(t, d, nil)
}

// D3: what was synced may be written again, and is pending then beside what lasts.
func TestWriteBehindSync(t *testing.T) {
	d := fresh(t)
	for _, c := range []string{"a", "b", "c"} {
		wantErrno(t, "Write", d.Write(6, of(c)), api.OK)
		wantErrno(t, "Sync", d.Sync(), api.OK)
		wantLasting(t, d, map[int]string{6: of(c)})
		wantPending(t, d)
	}
	wantErrno(t, "Write", d.Write(6, of("d")), api.OK)
	wantLasting(t, d, map[int]string{6: of("c")})
	wantPending(t, d, api.Write{Block: 6, Data: of("d")})
}

// D2 and D3 on the greatest disk, at its ends and in its middle.
func TestGreatest(t *testing.T) {
	want := images(4096)
	d := loaded(t, want)
	for _, n := range []int{4095, 0, 2048} {
		want[n] = marked(n)
		wantErrno(t, "Write", d.Write(n, want[n]), api.OK)
		wantRead(t, d, n, want[n])
	}
	wantErrno(t, "Write", d.Write(4096, of("x")), api.ErrDiskBlock)
	wantErrno(t, "Sync", d.Sync(), api.OK)
	if !slices.Equal(d.Blocks(), want) {
		t.Fatal("other blocks last")
	}
}

// D3 and D5: all blocks of the greatest disk may be pending at once, in whatever order they were written.
func TestAllPending(t *testing.T) {
	for _, turn := range []int{1, 4095, 2047, 2731} {
		d, errno := disk.New(4096)
		wantErrno(t, "New", errno, api.OK)
		want := images(4096)
		for n := range want {
			at := n * turn % 4096
			wantErrno(t, "Write", d.Write(at, want[at]), api.OK)
		}
		l := d.Pending()
		if len(l) != 4096 {
			t.Fatalf("pending: %d", len(l))
		}
		for n, w := range l {
			if w.Block != n || w.Data != want[n] {
				t.Fatalf("the write %d is of the block %d", n, w.Block)
			}
		}
		wantErrno(t, "Sync", d.Sync(), api.OK)
		if !slices.Equal(d.Blocks(), want) {
			t.Fatal("other blocks last")
		}
	}
}
