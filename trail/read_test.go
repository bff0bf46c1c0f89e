package trail_test

import (
	"testing"

	"latchkey/api"
	"latchkey/disk"
	"latchkey/table"
	"latchkey/trail"
)

// first is the chain of a table that was just laid.
func first() api.Chain {
	return api.Chain{Next: 1, BaseHash: noughts, NextHash: noughts}
}

// T3: Read asks, and changes nothing: no act, no chain that was not there.
func TestReadOfNothing(t *testing.T) {
	d, x := began(t, 16)
	acts := d.Acts()
	wantTrail(t, "just laid", x, first(), nil)
	x.See(70)
	wantTrail(t, "later", x, first(), nil)
	if d.Acts() != acts {
		t.Fatalf("%d acts", d.Acts()-acts)
	}
	wantErrno(t, "Commit", x.Commit(), api.OK)
	if d.Acts() != acts+3 {
		t.Fatalf("there was something to commit: %d acts", d.Acts()-acts)
	}
	wantTrail(t, "opened anew", opened(t, d), first(), nil)
}

// T3: behind notes that are begun, committed, aborted, and behind Open.
func TestReadBehindNotes(t *testing.T) {
	for _, count := range []int{1, 2, 31, 32, 33, 64, 65, 100} {
		d, x := began(t, 40)
		p := newPlain()
		look := func(what string) {
			t.Helper()
			c, l := p.read()
			wantTrail(t, what, x, c, l)
		}
		for n := range count {
			x.See(n * 3)
			p.see(n * 3)
			wantNote(t, x, 1+n%9, n, "web", p.note(1+n%9, n, "web"), api.OK)
		}
		look("begun")
		wantErrno(t, "Commit", x.Commit(), api.OK)
		p.commit()
		look("committed")
		x.Abort()
		look("nothing to abort")
		x = opened(t, d)
		look("opened anew")
		wantNote(t, x, 9, 0, "", p.note(9, 0, ""), api.OK)
		look("begun behind that")
		x.Abort()
		p.abort()
		look("aborted")
		wantNote(t, x, 8, 0, "", p.note(8, 0, ""), api.OK)
		wantErrno(t, "Commit", x.Commit(), api.OK)
		look("committed behind that")
		x = opened(t, d)
		look("opened anew behind that")
	}
}

// T3: what layer 15 has in its changes is what is told, by rising numbers.
func TestReadOfWhatWasPut(t *testing.T) {
	_, x := began(t, 40)
	c, l := someTrail(300, 32)
	wantErrno(t, "PutChain", x.PutChain(c), api.OK)
	for n := range l {
		wantErrno(t, "PutEvent", x.PutEvent(l[(n*7)%32]), api.OK)
	}
	wantTrail(t, "put", x, c, l)
}

// dying is a disk that dies in an act of the commit of a note, and the table on it.
func dying(t *testing.T, act int) (*disk.Disk, *table.Table) {
	t.Helper()
	d, x := began(t, 40)
	wantNote(t, x, 9, 0, "", 1, api.OK)
	wantErrno(t, "Commit", x.Commit(), api.OK)
	wantNote(t, x, 8, 0, "", 2, api.OK)
	wantErrno(t, "Arm", d.Arm(act), api.OK)
	wantErrno(t, "Commit", x.Commit(), api.ErrDead)
	return d, x
}

// T2, T3, R3: a table in doubt tells nothing, also if its disk is there again.
func TestDoubt(t *testing.T) {
	for act := 1; act <= 4; act++ {
		d, x := dying(t, act)
		wantDead(t, "dead", x)
		wantErrno(t, "Crash", d.Crash(nil), api.OK)
		wantDead(t, "in doubt", x)
		wantNote(t, x, 0, 0, "", 0, api.ErrTrailField)
		x.Abort()
		wantDead(t, "in doubt, and aborted", x)
		x = opened(t, d)
		if c, _, errno := trail.Read(x); c.Next != 2 || errno != api.OK {
			t.Fatalf("%d, %d", c.Next, errno)
		}
		wantNote(t, x, 8, 0, "", 2, api.OK)
	}
}
