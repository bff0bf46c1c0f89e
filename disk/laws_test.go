package disk_test

import (
	"math/rand"
	"slices"
	"strings"
	"testing"

	"latchkey/api"
	"latchkey/disk"
)

// D1 to D6 hold in scripts drawn at random.
func TestScripts(t *testing.T) {
	r := rand.New(rand.NewSource(20))
	for range 300 {
		l := someImages(r)
		d, m := loaded(t, l), newModel(l)
		for range r.Intn(80) {
			step(t, r, d, m)
			wantSame(t, d, m)
		}
	}
}

// Disks know nothing of one another, also if they began alike, or one was loaded of the other.
func TestTwoDisksInTurns(t *testing.T) {
	r := rand.New(rand.NewSource(21))
	for range 60 {
		l := someImages(r)
		disks := []*disk.Disk{loaded(t, l), loaded(t, l)}
		models := []*model{newModel(l), newModel(l)}
		for range 60 {
			n := r.Intn(len(disks))
			step(t, r, disks[n], models[n])
			if len(disks) < 4 && r.Intn(20) == 0 {
				disks = append(disks, loaded(t, disks[n].Blocks()))
				models = append(models, newModel(models[n].blocks()))
			}
			for n := range disks {
				wantSame(t, disks[n], models[n])
			}
		}
	}
}

// played is a disk behind a script drawn at random, in which no crash stands, and its model.
func played(t *testing.T, r *rand.Rand) (*disk.Disk, *model) {
	t.Helper()
	l := someImages(r)
	d, m := loaded(t, l), newModel(l)
	for range r.Intn(30) {
		block, data := r.Intn(len(l)), someData(r)
		wantErrno(t, "Write", d.Write(block, data), m.write(block, data))
		if r.Intn(5) == 0 {
			wantErrno(t, "Sync", d.Sync(), m.sync())
		}
	}
	if r.Intn(2) == 0 {
		wantErrno(t, "Arm", d.Arm(1), m.arm(1))
		wantErrno(t, "Sync", d.Sync(), m.sync())
	}
	return d, m
}

// D7: behind a Crash each sector of each block is what lasted of it, or what was written last; what was synced, and not written since, is there.
func TestSectorsBehindCrash(t *testing.T) {
	r := rand.New(rand.NewSource(22))
	for range 500 {
		d, m := played(t, r)
		lasted, written := m.blocks(), slices.Clone(m.written)
		pending := map[int]int{}
		for n, w := range d.Pending() {
			pending[w.Block] = n
		}
		l := someKeeps(r, len(pending))
		wantErrno(t, "Crash", d.Crash(l), api.OK)
		for n, data := range d.Blocks() {
			wantRead(t, d, n, data)
			if _, was := pending[n]; !was && (data != lasted[n] || written[n] != "" && data != written[n]) {
				t.Fatalf("of the block %d, which was synced, %q is there", n, data)
			}
			for s := 0; s < 512; s += 64 {
				sector := data[s : s+64]
				if sector != lasted[n][s:s+64] && (written[n] == "" || sector != written[n][s:s+64]) {
					t.Fatalf("of the block %d %q is there", n, sector)
				}
			}
		}
	}
}

// D7: a disk that is loaded of Blocks reads as the first one does behind a Crash of nothing.
func TestLoadedOfBlocks(t *testing.T) {
	r := rand.New(rand.NewSource(23))
	for range 300 {
		d, _ := played(t, r)
		other := loaded(t, d.Blocks())
		wantErrno(t, "Crash", d.Crash(nil), api.OK)
		for n := -1; n <= d.Size(); n++ {
			a, e := d.Read(n)
			b, f := other.Read(n)
			if a != b || e != f {
				t.Fatalf("Read(%d): %q, %d; and %q, %d", n, a, e, b, f)
			}
		}
		if d.Size() != other.Size() || other.Acts() != 0 || other.Dead() || len(other.Pending()) != 0 {
			t.Fatal("a loaded disk is not young")
		}
	}
}

// D7: Acts is how many Writes and Syncs have answered OK.
func TestActsAreAnswers(t *testing.T) {
	r := rand.New(rand.NewSource(24))
	for range 300 {
		d := loaded(t, someImages(r))
		done := 0
		for range 60 {
			errno := api.ErrArg
			switch r.Intn(6) {
			case 0, 1:
				errno = d.Write(someBlock(r, d.Size()), someBytes(r))
			case 2, 3:
				errno = d.Sync()
			case 4:
				d.Arm(r.Intn(6) - 1)
			case 5:
				d.Crash(someKeeps(r, len(d.Pending())))
			}
			if errno == api.OK {
				done++
			}
			if d.Acts() != done {
				t.Fatalf("Acts: %d, want %d", d.Acts(), done)
			}
		}
	}
}

// P2, as far as it leans on a disk: wherever a disk dies in a row of acts, what was synced ahead of it, and not written since, is there behind the Crash.
func TestDiesAnywhere(t *testing.T) {
	r := rand.New(rand.NewSource(25))
	for dies := 1; dies <= 13; dies++ {
		for range 20 {
			d := fresh(t)
			wantErrno(t, "Arm", d.Arm(dies), api.OK)
			synced := 0
			for n := 1; n <= 3; n++ { // each round writes three blocks of its own, and syncs
				errno := api.OK
				for b := 2*n - 2; b <= 2*n; b++ {
					errno = max(errno, d.Write(b, marked(n)))
				}
				if max(errno, d.Sync()) == api.OK {
					synced = n
				}
			}
			wantState(t, d, dies < 13, min(dies-1, 12))
			wantErrno(t, "Crash", d.Crash(someKeeps(r, len(d.Pending()))), api.OK)
			for n := 1; n <= synced; n++ {
				wantRead(t, d, 2*n-2+min(n-1, 1), marked(n))
			}
		}
	}
}

// The chapter's examples 1 and 2.
func TestExamples1And2(t *testing.T) {
	d := fresh(t)
	wantErrno(t, "Write(2)", d.Write(2, of("x")), api.OK)
	wantRead(t, d, 2, of("x"))
	if l := d.Blocks(); !slices.Equal(l, slices.Repeat([]string{noughts}, 8)) {
		t.Errorf("Blocks: %q", l)
	}
	wantState(t, d, false, 1)
	wantErrno(t, "Write(8)", d.Write(8, of("x")), api.ErrDiskBlock)
	wantErrno(t, "Write of x", d.Write(1, "x"), api.ErrDiskSize)
	wantErrno(t, "Crash", d.Crash([]api.Keep{{N: 0, Sectors: 5}}), api.OK)
	wantRead(t, d, 2, strings.Repeat("x", 64)+strings.Repeat("\x00", 64)+strings.Repeat("x", 64)+strings.Repeat("\x00", 320))
	wantErrno(t, "Crash", d.Crash([]api.Keep{{N: 0, Sectors: 5}}), api.ErrDiskKeep)
	wantState(t, d, false, 1)

	wantErrno(t, "Arm(2)", d.Arm(2), api.OK)
	wantErrno(t, "Write(3)", d.Write(3, of("y")), api.OK)
	wantErrno(t, "Sync", d.Sync(), api.ErrDead)
	wantNoRead(t, d, 3, api.ErrDead)
	wantState(t, d, true, 2)
	wantErrno(t, "Arm(1)", d.Arm(1), api.ErrDead)
	wantErrno(t, "Arm(-1)", d.Arm(-1), api.ErrArg)
	wantState(t, d, true, 2)
	wantPending(t, d, api.Write{Block: 3, Data: of("y")})
	wantErrno(t, "Crash", d.Crash(nil), api.OK)
	wantState(t, d, false, 2)
	wantRead(t, d, 3, noughts)
}

// The chapter's example 3.
func TestExample3(t *testing.T) {
	if d, errno := disk.New(7); d != nil || errno != api.ErrArg {
		t.Errorf("New(7): %d", errno)
	}
	if d, errno := disk.Load(images(7)); d != nil || errno != api.ErrArg {
		t.Errorf("Load of seven: %d", errno)
	}
}
