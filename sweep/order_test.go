package sweep_test

import (
	"fmt"
	"slices"
	"testing"

	"latchkey/api"
	"latchkey/disk"
	"latchkey/pager"
	"latchkey/tree"
)

// tight is a disk on which the same pairs stand, and no page is free.
func tight(t *testing.T, d *disk.Disk) *disk.Disk {
	t.Helper()
	from, errno := pager.Mount(d)
	wantErrno(t, "Mount", errno, api.OK)
	pairs, errno := tree.Open(from).Scan("", "", 4096)
	wantErrno(t, "Scan", errno, api.OK)
	lay := func(blocks int) *disk.Disk {
		d, errno := disk.New(blocks)
		wantErrno(t, "New", errno, api.OK)
		wantErrno(t, "Format", pager.Format(d, from.Note()), api.OK)
		to, errno := pager.Mount(d)
		wantErrno(t, "Mount", errno, api.OK)
		x := tree.Open(to)
		for _, p := range pairs {
			wantErrno(t, "Put", x.Put(p.Key, p.Value), api.OK)
		}
		wantErrno(t, "Commit", x.Commit(from.Note()), api.OK)
		return d
	}
	wide, errno := pager.Mount(lay(512))
	wantErrno(t, "Mount", errno, api.OK)
	d = lay(2 + len(wide.Reached()))
	if free := opened(t, d).Pager().Free(); free != 0 {
		t.Fatalf("the test is wrong: %d are free", free)
	}
	return d
}

// widened is a disk with the same on it, and so many free pages.
func widened(t *testing.T, d *disk.Disk, spare int) *disk.Disk {
	t.Helper()
	blocks := d.Blocks()
	for range spare {
		blocks = append(blocks, many(512, "\x00"))
	}
	g, errno := pager.Mount(d)
	wantErrno(t, "Mount", errno, api.OK)
	head, errno := pager.PrintHead(g.Generation(), g.Root(), len(blocks), g.Note())
	wantErrno(t, "PrintHead", errno, api.OK)
	blocks[g.Generation()%2] = head
	blocks[1-g.Generation()%2] = many(512, "\x00")
	return loaded(t, blocks)
}

// fault is what a table can not do.
type fault struct {
	dead   bool
	events int  // how many numbers are left for events; 99: enough
	full   bool // no page is free
	aged   bool // no generation is left
}

// faults are all of them, alone and together.
func faults() []fault {
	var l []fault
	for n := range 8 {
		for _, events := range []int{0, 1, 2, 3, 4, 99} {
			l = append(l, fault{n&1 > 0, events, n&2 > 0, n&4 > 0})
		}
	}
	return l
}

// faulty is a table at 120, with that fault. By then the code 10 alone is over, at 160 the code 9, too; the families 2, which came of the code 1, 4 and 7 end at 150, 151 and 160.
func faulty(t *testing.T, f fault) *both {
	t.Helper()
	base := 0
	if f.events < 99 {
		base = lastID - 7 - f.events
	}
	b := founded(t, 128, 1, base, three()...)
	b.redeemed("ann", 30, 100, 1)                            // 1, 2
	b.issued("bob", 101, 2)                                  // 4
	b.approved("bob", 10, 101, 3)                            // 6, which the next one takes away
	b.want(issue("web", "bob", nil, 110, secret(4)), api.OK) // 7
	b.approved("eve", 40, 120, 5)                            // 9
	b.approved("eve", 0, 120, 6)                             // 10
	if left := b.b.left(); f.events < 99 && left != f.events {
		t.Fatalf("the test is wrong: %d numbers are left for events", left)
	}
	if f.full {
		b.d = tight(t, b.d)
	}
	if f.aged {
		b.d = aged(t, b.d, worn)
	}
	b.x = opened(t, b.d)
	b.look("the table")
	if f.dead {
		kill(t, b.d)
	}
	return b
}

// behind is the error of a commit with so many events at such a table.
func (f fault) behind(events int) api.Errno {
	switch {
	case f.events < events:
		return api.ErrTableWorn
	case f.full:
		return api.ErrPagerFull
	case f.aged:
		return api.ErrPagerWorn
	}
	return api.OK
}

// S1, S2: several things wrong at once, in the order in which the promises name them; all combinations. What is refused leaves the table as it was, and what changes nothing is not refused for what a commit would need.
func TestInOrder(t *testing.T) {
	t.Parallel()
	for _, f := range faults() {
		t.Run(fmt.Sprint(f), func(t *testing.T) {
			t.Parallel()
			image := faulty(t, f)
			for _, now := range []int{120, 150, 151, 160} {
				for _, retain := range []int{0, 1, 9, 100} {
					for _, count := range []int{0, 1, 2, 3, 16, 17} {
						tryRun(t, image, f, retain, count, now)
					}
					tryDue(t, image, f, retain, now)
				}
			}
		})
	}
}

// tryDue is that Due tells, unless the disk is dead.
func tryDue(t *testing.T, image *both, f fault, retain, now int) {
	t.Helper()
	if f.dead {
		image.wantRefused(due(retain, now), api.ErrDead)
		return
	}
	image.twin(t).want(due(retain, now), api.OK)
}

// tryRun is that Run does what it can, or changes nothing.
func tryRun(t *testing.T, image *both, f fault, retain, count, now int) {
	t.Helper()
	c := run(retain, count, now)
	would := image.b.copied()
	would.see(now)
	families := min(count, len(would.dueLines(retain)))
	changes := families+len(would.dueSlips(retain)) > 0
	want := api.OK
	switch {
	case count < 1 || count > 16:
		want = api.ErrArg
	case f.dead:
		want = api.ErrDead
	case changes:
		want = f.behind(families)
	}
	if f.dead {
		image.wantRefused(c, want)
		return
	}
	b := image.twin(t)
	if want != api.ErrPagerFull && want != api.ErrPagerWorn { // of these the book knows nothing
		b.want(c, want)
		return
	}
	for range 2 {
		b.wantRefused(c, want)
		b.b.see(now)
		b.look(c.what)
	}
	if !slices.Equal(b.d.Blocks(), image.d.Blocks()) {
		t.Fatalf("%s: another disk", c.what)
	}
}

// S2: with fewer numbers for events than families go: none goes, nor a code; with a lesser most some go.
func TestRunWorn(t *testing.T) {
	for _, f := range []fault{{events: 0}, {events: 1}, {events: 2}, {events: 3}} {
		b := faulty(t, f)
		for count := f.events + 1; count <= 3; count++ {
			b.want(run(0, count, 160), api.ErrTableWorn)
			b.left(2, 4, 7)
			b.codes(1, 9, 10)
		}
		if f.events == 0 {
			continue
		}
		b.want(run(0, f.events, 160), api.OK)
		b.left([]int{2, 4, 7}[f.events:]...)
		b.codes()
		if f.events < 3 {
			b.want(run(0, 1, 160), api.ErrTableWorn)
		} else {
			b.run(0, 16, 160, api.Swept{})
		}
		b.reopen()
	}
}

// S2: codes have no events, so they go also if no number is left.
func TestRunCodesWorn(t *testing.T) {
	b := faulty(t, fault{events: 0})
	b.run(0, 16, 120, api.Swept{Codes: 1})
	b.codes(1, 9)
	b.run(0, 16, 149, api.Swept{})
	b.want(run(0, 16, 150), api.ErrTableWorn)
}

// R4: as much room as a sweep needs, and a page less: it is refused, or done as a whole.
func TestAlmostFull(t *testing.T) {
	t.Parallel()
	full := faulty(t, fault{events: 99, full: true})
	for _, c := range []call{run(0, 16, 120), run(0, 1, 160), run(0, 2, 160), run(0, 16, 160), run(5, 16, 156)} {
		t.Run(c.what, func(t *testing.T) {
			t.Parallel()
			refused, done := 0, 0
			for spare := range 30 {
				d := widened(t, full.d, spare)
				b := &both{t, d, opened(t, d), full.b.copied()}
				before := b.state()
				got := c.do(b.x)
				if got.errno == api.ErrPagerFull && done == 0 && got.same(answer{errno: api.ErrPagerFull}) && b.state() == before {
					refused++
					b.b.now = b.x.Now()
					b.look(c.what)
					continue
				}
				done++
				if want := c.book(b.b); !got.same(want) {
					t.Fatalf("%s: %#v, want %#v", c.what, got, want)
				}
				b.look(c.what)
			}
			if refused == 0 || done == 0 {
				t.Fatalf("the test is wrong: %d refused, %d done", refused, done)
			}
		})
	}
}

// R4: pins take the room; behind them the same sweep is done. Due needs no room.
func TestFullByPins(t *testing.T) {
	b := founded(t, 14, 1, 0, three()...)
	b.redeemed("ann", 30, 100, 1)
	refused := false
	for n := 0; n < 40 && !refused; n++ {
		if n < 4 {
			_, errno := b.x.Pager().Pin()
			wantErrno(t, "Pin", errno, api.OK)
		}
		refused = turn("off", n%2 > 0, 100).do(b.x).errno == api.ErrPagerFull
		if !refused {
			turn("off", n%2 > 0, 100).book(b.b)
		}
	}
	if !refused {
		t.Fatal("the test is wrong")
	}
	for range 2 {
		b.wantRefused(run(0, 16, 150), api.ErrPagerFull)
		b.b.see(150)
		b.look("no room")
		b.due(0, 150, 1, 0)
		b.run(1, 16, 150, api.Swept{})
	}
	for pin := range 4 {
		b.x.Pager().Unpin(pin + 1)
	}
	b.run(0, 16, 150, api.Swept{Families: 1, Tokens: 1, Codes: 1})
	b.reopen()
}
