package disk_test

import (
	"testing"

	"latchkey/api"
	"latchkey/disk"
)

// act tries a Write or a Sync, in turns.
func act(d *disk.Disk, n int) api.Errno {
	if n%2 == 0 {
		return d.Write(n%d.Size(), marked(n))
	}
	return d.Sync()
}

// D4: the disk dies in just the n-th act from Arm on, be that a Write or a Sync, whatever was done ahead of it.
func TestArm(t *testing.T) {
	for ahead := range 4 {
		for n := 1; n < 12; n++ {
			d := fresh(t)
			for i := range ahead {
				wantErrno(t, "an act ahead", act(d, i), api.OK)
			}
			wantErrno(t, "Arm", d.Arm(n), api.OK)
			for i := 1; i < n; i++ {
				wantErrno(t, "an act", act(d, ahead+i), api.OK)
				wantState(t, d, false, ahead+i)
			}
			wantErrno(t, "the act", act(d, ahead+n), api.ErrDead)
			wantState(t, d, true, ahead+n-1)
			for i := range 4 {
				wantErrno(t, "behind it", act(d, i), api.ErrDead)
			}
			wantState(t, d, true, ahead+n-1)
		}
	}
}

// D4: the Write in which it dies does nothing.
func TestDiesInWrite(t *testing.T) {
	d := fresh(t)
	wantErrno(t, "Write", d.Write(1, of("a")), api.OK)
	wantErrno(t, "Sync", d.Sync(), api.OK)
	wantErrno(t, "Write", d.Write(2, of("b")), api.OK)
	wantErrno(t, "Arm", d.Arm(1), api.OK)
	wantErrno(t, "Write", d.Write(2, of("c")), api.ErrDead)
	wantPending(t, d, api.Write{Block: 2, Data: of("b")})
	wantLasting(t, d, map[int]string{1: of("a")})
	wantState(t, d, true, 3)
	wantErrno(t, "Crash", d.Crash([]api.Keep{{N: 0, Sectors: 255}}), api.OK)
	wantLasting(t, d, map[int]string{1: of("a"), 2: of("b")})
}

// D4: the Write in which it dies does nothing to a block of which nothing was pending.
func TestDiesInFirstWrite(t *testing.T) {
	d := fresh(t)
	wantErrno(t, "Arm", d.Arm(1), api.OK)
	wantErrno(t, "Write", d.Write(5, of("a")), api.ErrDead)
	wantPending(t, d)
	wantLasting(t, d, nil)
	wantState(t, d, true, 0)
}

// D4: the Sync in which it dies does nothing: what was pending is so still.
func TestDiesInSync(t *testing.T) {
	d := killed(t, 6, 3)
	wantPending(t, d, api.Write{Block: 3, Data: marked(3)}, api.Write{Block: 6, Data: marked(6)})
	wantLasting(t, d, nil)
	wantState(t, d, true, 2)
}

// D4: what may not be armed leaves an earlier Arm as it was.
func TestArmRefused(t *testing.T) {
	d := fresh(t)
	wantErrno(t, "Arm", d.Arm(2), api.OK)
	for _, n := range []int{-1, -2, least, least + 1} {
		wantErrno(t, "Arm", d.Arm(n), api.ErrArg)
	}
	wantErrno(t, "Sync", d.Sync(), api.OK)
	wantErrno(t, "Sync", d.Sync(), api.ErrDead)
	wantState(t, d, true, 1)
	e := fresh(t)
	wantErrno(t, "Arm", e.Arm(-1), api.ErrArg)
	wantErrno(t, "Arm", e.Arm(least), api.ErrArg)
	wantUnarmed(t, e)
}

// D4: of a dead disk: a number below 0 ahead of the death; it stays dead, and unarmed behind a Crash.
func TestArmDead(t *testing.T) {
	d := killed(t, 3)
	for _, n := range []int{-1, least} {
		wantErrno(t, "Arm", d.Arm(n), api.ErrArg)
	}
	for _, n := range []int{0, 1, 2, most} {
		wantErrno(t, "Arm", d.Arm(n), api.ErrDead)
	}
	wantState(t, d, true, 1)
	wantNoRead(t, d, 3, api.ErrDead)
	wantErrno(t, "Crash", d.Crash(nil), api.OK)
	wantUnarmed(t, d)
}

// D4: 0: it is armed no more.
func TestArmNoMore(t *testing.T) {
	for _, n := range []int{0, 1, 2, 3, most} {
		d := fresh(t)
		wantErrno(t, "Arm", d.Arm(n), api.OK)
		wantErrno(t, "Arm", d.Arm(0), api.OK)
		wantUnarmed(t, d)
		wantState(t, d, false, 40)
	}
	d := fresh(t)
	wantErrno(t, "Arm", d.Arm(2), api.OK)
	wantErrno(t, "Sync", d.Sync(), api.OK)
	wantErrno(t, "Arm", d.Arm(0), api.OK)
	wantUnarmed(t, d)
}

// D4: a later Arm takes the place of an earlier one, be it sooner or later, and counts from then on.
func TestArmAgain(t *testing.T) {
	for _, x := range []struct{ first, between, second int }{{1, 0, 3}, {5, 0, 1}, {5, 2, 1}, {3, 2, 3}, {2, 1, 2}, {most, 3, 2}, {4, 3, 7}} {
		d := fresh(t)
		wantErrno(t, "Arm", d.Arm(x.first), api.OK)
		for n := range x.between {
			wantErrno(t, "between", act(d, n), api.OK)
		}
		wantErrno(t, "Arm", d.Arm(x.second), api.OK)
		for n := 1; n < x.second; n++ {
			wantErrno(t, "ahead", act(d, n), api.OK)
		}
		wantErrno(t, "the act", act(d, x.second), api.ErrDead)
		wantState(t, d, true, x.between+x.second-1)
	}
}

// D4: armed for ever so many acts it lives for some.
func TestArmFar(t *testing.T) {
	for _, n := range []int{most, most - 1, 1 << 32, 1<<32 + 1, 1000} {
		d := fresh(t)
		wantErrno(t, "Sync", d.Sync(), api.OK)
		wantErrno(t, "Arm", d.Arm(n), api.OK)
		wantUnarmed(t, d)
		wantState(t, d, false, 41)
	}
}

// D4: what an error refuses that is named ahead of the act is no act, nor is anything but a Write and a Sync.
func TestNoAct(t *testing.T) {
	d := fresh(t)
	wantErrno(t, "Write", d.Write(1, of("a")), api.OK)
	wantErrno(t, "Arm", d.Arm(1), api.OK)
	for range 3 {
		wantErrno(t, "Write", d.Write(1, "a"), api.ErrDiskSize)
		wantErrno(t, "Write", d.Write(8, of("a")), api.ErrDiskBlock)
		wantErrno(t, "Arm", d.Arm(-1), api.ErrArg)
		wantErrno(t, "Crash", d.Crash([]api.Keep{{N: 1}}), api.ErrDiskKeep)
		wantRead(t, d, 1, of("a"))
		wantNoRead(t, d, 8, api.ErrDiskBlock)
		wantPending(t, d, api.Write{Block: 1, Data: of("a")})
		wantLasting(t, d, nil)
		wantState(t, d, false, 1)
	}
	wantErrno(t, "the act", d.Sync(), api.ErrDead)
	wantState(t, d, true, 1)
}

// D4: a disk may die as often as you like.
func TestDiesAgain(t *testing.T) {
	d := fresh(t)
	for n := range 20 {
		wantErrno(t, "Arm", d.Arm(2), api.OK)
		wantErrno(t, "an act", act(d, n), api.OK)
		wantErrno(t, "the act", act(d, n+1), api.ErrDead)
		wantState(t, d, true, n+1)
		wantErrno(t, "Crash", d.Crash(nil), api.OK)
		wantState(t, d, false, n+1)
	}
}
