package disk_test

import (
	"testing"

	"latchkey/api"
)

// kept is a block of which these sectors are the written one's.
func kept(last, written string, set int) string {
	b := []byte(last)
	for n := range b {
		if inSet(set, n/64) {
			b[n] = written[n]
		}
	}
	return string(b)
}

// D6: a Crash of nothing leaves what lasted.
func TestCrashOfNothing(t *testing.T) {
	for _, l := range [][]api.Keep{nil, {}} {
		d := fresh(t)
		wantErrno(t, "Write", d.Write(1, of("a")), api.OK)
		wantErrno(t, "Sync", d.Sync(), api.OK)
		wantErrno(t, "Write", d.Write(1, of("b")), api.OK)
		wantErrno(t, "Write", d.Write(2, of("c")), api.OK)
		wantErrno(t, "Crash", d.Crash(l), api.OK)
		wantPending(t, d)
		wantLasting(t, d, map[int]string{1: of("a")})
		wantRead(t, d, 1, of("a"))
		wantRead(t, d, 2, noughts)
		wantState(t, d, false, 4)
	}
}

// D6: a Crash of all sectors of all writes is as a Sync, but for the acts.
func TestCrashOfAll(t *testing.T) {
	d := killed(t, 4, 0, 7)
	wantErrno(t, "Crash", d.Crash([]api.Keep{{N: 2, Sectors: 255}, {N: 0, Sectors: 255}, {N: 1, Sectors: 255}}), api.OK)
	wantPending(t, d)
	wantLasting(t, d, map[int]string{0: marked(0), 4: marked(4), 7: marked(7)})
	wantState(t, d, false, 3)
}

// D6: each set of sectors.
func TestCrashSets(t *testing.T) {
	for set := range 256 {
		d := fresh(t)
		wantErrno(t, "Write", d.Write(3, marked(20)), api.OK)
		wantErrno(t, "Sync", d.Sync(), api.OK)
		wantErrno(t, "Write", d.Write(3, marked(3)), api.OK)
		wantErrno(t, "Crash", d.Crash([]api.Keep{{N: 0, Sectors: set}}), api.OK)
		want := kept(marked(20), marked(3), set)
		wantLasting(t, d, map[int]string{3: want})
		wantRead(t, d, 3, want)
		wantPending(t, d)
	}
}

// D6: one sector alone, its first and last byte, and those beside it.
func TestCrashOneSector(t *testing.T) {
	for s := range 8 {
		d := fresh(t)
		wantErrno(t, "Write", d.Write(0, of("w")), api.OK)
		wantErrno(t, "Crash", d.Crash([]api.Keep{{N: 0, Sectors: 1 << s}}), api.OK)
		got, _ := d.Read(0)
		for n := range got {
			if in := n >= 64*s && n < 64*s+64; in != (got[n] == 'w') || !in && got[n] != 0 {
				t.Fatalf("sector %d: the byte %d is %q", s, n, got[n])
			}
		}
	}
}

// D6: some sectors of some writes; of those that are not named nothing stays. The places count what is pending, not the blocks, nor the order of the Writes.
func TestCrashOfSome(t *testing.T) {
	d := killed(t, 6, 1, 5, 3)
	wantErrno(t, "Crash", d.Crash([]api.Keep{{N: 3, Sectors: 129}, {N: 1, Sectors: 6}, {N: 0, Sectors: 0}}), api.OK)
	wantLasting(t, d, map[int]string{6: kept(noughts, marked(6), 129), 3: kept(noughts, marked(3), 6)})
	wantPending(t, d)
	wantState(t, d, false, 4)
}

// D6: what was written last counts, not what it stands in the place of; and what lasted is what an earlier Crash kept.
func TestCrashOfLast(t *testing.T) {
	d := fresh(t)
	wantErrno(t, "Write", d.Write(2, of("a")), api.OK)
	wantErrno(t, "Write", d.Write(2, of("b")), api.OK)
	wantErrno(t, "Crash", d.Crash([]api.Keep{{N: 0, Sectors: 15}}), api.OK)
	first := kept(noughts, of("b"), 15)
	wantRead(t, d, 2, first)
	wantErrno(t, "Write", d.Write(2, of("c")), api.OK)
	wantErrno(t, "Crash", d.Crash([]api.Keep{{N: 0, Sectors: 12}}), api.OK)
	second := kept(first, of("c"), 12)
	wantRead(t, d, 2, second)
	wantErrno(t, "Write", d.Write(2, of("d")), api.OK)
	wantErrno(t, "Crash", d.Crash(nil), api.OK)
	wantLasting(t, d, map[int]string{2: second})
}

// D6: each cause of ErrDiskKeep, also behind elements that may be, of a disk that lives and of a dead one: all stays as it was.
func TestCrashRefused(t *testing.T) {
	wrong := [][]api.Keep{
		{{N: -1}}, {{N: least}}, {{N: 2}}, {{N: 3}}, {{N: most}}, {{N: 1 << 32}},
		{{N: 0}, {N: 0}}, {{N: 1, Sectors: 3}, {N: 1, Sectors: 4}}, {{N: 0}, {N: 1}, {N: 0}}, {{N: 0, Sectors: 7}, {N: 1, Sectors: 7}, {N: 1, Sectors: 7}},
		{{N: 0, Sectors: -1}}, {{N: 0, Sectors: 256}}, {{N: 1, Sectors: least}}, {{N: 1, Sectors: most}}, {{N: 1, Sectors: 511}}, {{N: 0, Sectors: 1 << 32}},
		{{N: 0, Sectors: 255}, {N: 1, Sectors: 256}}, {{N: 0, Sectors: 255}, {N: 2, Sectors: 1}}, {{N: -1}, {N: 0}}, {{N: 0, Sectors: 256}, {N: 1, Sectors: 1}},
		{{N: 0}, {N: 1}, {N: 2}},
	}
	for _, dead := range []bool{true, false} {
		for _, l := range wrong {
			d := killed(t, 6, 3)
			if !dead {
				wantErrno(t, "Crash", d.Crash(nil), api.OK)
				wantErrno(t, "Write", d.Write(6, marked(6)), api.OK)
				wantErrno(t, "Write", d.Write(3, marked(3)), api.OK)
				wantErrno(t, "Arm", d.Arm(1), api.OK)
			}
			acts := d.Acts()
			if errno := d.Crash(l); errno != api.ErrDiskKeep {
				t.Fatalf("Crash(%v): %d", l, errno)
			}
			wantState(t, d, dead, acts)
			wantPending(t, d, api.Write{Block: 3, Data: marked(3)}, api.Write{Block: 6, Data: marked(6)})
			wantLasting(t, d, nil)
			wantErrno(t, "it is dead, or armed still", d.Sync(), api.ErrDead)
		}
	}
}

// D6: with nothing pending no place may be named; a Crash of nothing is right.
func TestCrashWithNothingPending(t *testing.T) {
	d := loaded(t, images(8))
	for _, k := range []api.Keep{{N: 0, Sectors: 0}, {N: 0, Sectors: 255}, {N: -1}, {N: 1}} {
		wantErrno(t, "Crash", d.Crash([]api.Keep{k}), api.ErrDiskKeep)
	}
	wantErrno(t, "Crash", d.Crash(nil), api.OK)
	for n, s := range d.Blocks() {
		if s != images(8)[n] {
			t.Fatalf("of the block %d %q lasts", n, s)
		}
	}
}

// D6: behind a Crash the disk lives, and is not armed: of a dead one, and of one that lived and was armed.
func TestLivesBehindCrash(t *testing.T) {
	d := killed(t, 2)
	wantErrno(t, "Crash", d.Crash([]api.Keep{{N: 0, Sectors: 1}}), api.OK)
	wantState(t, d, false, 1)
	wantRead(t, d, 2, kept(noughts, marked(2), 1))
	wantUnarmed(t, d)
	for _, n := range []int{1, 2, 30} {
		e := fresh(t)
		wantErrno(t, "Arm", e.Arm(n), api.OK)
		wantErrno(t, "Crash", e.Crash(nil), api.OK)
		wantUnarmed(t, e)
		wantState(t, e, false, 40)
	}
}

// D6: it may be armed anew, and counts from there.
func TestArmBehindCrash(t *testing.T) {
	d := killed(t)
	wantErrno(t, "Crash", d.Crash(nil), api.OK)
	wantErrno(t, "Arm", d.Arm(2), api.OK)
	wantErrno(t, "Write", d.Write(0, of("a")), api.OK)
	wantErrno(t, "Write", d.Write(1, of("a")), api.ErrDead)
	wantState(t, d, true, 1)
	wantPending(t, d, api.Write{Block: 0, Data: of("a")})
}
