package access_test

import (
	"fmt"
	"math/rand"
	"testing"

	"latchkey/access"
	"latchkey/api"
	"latchkey/disk"
	"latchkey/table"
)

// crashed is a disk on which the same stands and is pending, behind a crash that keeps all of the pending blocks but the last one, and of that some sectors; or of all of them whatever is drawn.
func crashed(t *testing.T, d *disk.Disk, sectors int, r *rand.Rand) *disk.Disk {
	t.Helper()
	other := loaded(t, d.Blocks())
	var keep []api.Keep
	for n, w := range d.Pending() {
		wantErrno(t, "Write", other.Write(w.Block, w.Data), api.OK)
		k := api.Keep{N: n, Sectors: 255}
		if n == len(d.Pending())-1 {
			k.Sectors = sectors
		} else if r != nil {
			k.Sectors = r.Intn(256)
		}
		keep = append(keep, k)
	}
	wantErrno(t, "Crash", other.Crash(keep), api.OK)
	return other
}

// wantEither is that on a disk, behind a crash, stands what was, or what would be, as a whole; it says whether it is that.
func wantEither(t *testing.T, what string, d *disk.Disk, generation int, was, would everything) bool {
	t.Helper()
	x := opened(t, d)
	if x.Pager().Generation() == generation {
		wantStands(t, what+": as it was", d, was)
		return false
	}
	wantStands(t, what+": as it would be", d, would)
	return true
}

// A5, P2: a death in each act of a NewKey, with all sets of sectors of the last block that was written: as it was, or as it would be, as a whole.
func TestNewKeyDies(t *testing.T) {
	t.Parallel()
	for n, image := range []*both{founded(t, 16, 0), founded(t, 16, 0, layKeys(50, 60, lastTime)...), homely(t, crowd(20, 10)...), founded(t, 64, 0, layKeys(50, 99, 200, lastTime)...)} {
		t.Run(fmt.Sprint(n), func(t *testing.T) {
			t.Parallel()
			turned := 0
			for act := 1; ; act++ {
				died, there := image.diesIn(t, act)
				if !died {
					if act < 5 {
						t.Fatalf("%d acts", act-1)
					}
					break
				}
				turned += there
			}
			if turned != 128 { // the head's first sector alone says which one counts
				t.Fatalf("%d crashes have let the change stand", turned)
			}
		})
	}
}

// diesIn is a NewKey in which the disk dies in an act, if it comes to that; and how many of the crashes that keep all but some sectors of the last block let it stand.
func (b *both) diesIn(t *testing.T, act int) (died bool, there int) {
	t.Helper()
	b = b.twin(t)
	generation := b.x.Pager().Generation()
	wantErrno(t, "Arm", b.d.Arm(act), api.OK)
	was, would := b.e, b.e
	number, wantErr := would.NewKey(secret(9), 7, 100)
	n, errno := access.NewKey(b.x, secret(9), 7, 100)
	if died = b.d.Dead(); died {
		number, wantErr = 0, api.ErrDead
	}
	if n != number || errno != wantErr {
		t.Fatalf("act %d: %d, %d; want %d, %d", act, n, errno, number, wantErr)
	}
	r := rand.New(rand.NewSource(int64(act)))
	for sectors := 0; died && sectors < 256; sectors++ {
		what := fmt.Sprintf("act %d, sectors %d", act, sectors)
		if wantEither(t, what, crashed(t, b.d, sectors, nil), generation, was, would) {
			there++
		}
		if sectors%8 == 0 {
			wantEither(t, what, crashed(t, b.d, sectors, r), generation, was, would)
		}
	}
	return died, there
}

// A5, R3: behind a death the table is in doubt until it is opened anew; then the key is made, or the one behind it.
func TestNewKeyBehindADeath(t *testing.T) {
	for act := 1; act <= 4; act++ {
		for _, sectors := range []int{0, 1, 255} {
			b := founded(t, 16, 0)
			b.makes(1, secret(1), 5, 10)
			generation := b.x.Pager().Generation()
			wantErrno(t, "Arm", b.d.Arm(act), api.OK)
			was := b.e
			b.dies(secret(2), 5, 20)
			would := was
			would.NewKey(secret(2), 5, 20)
			b.d = crashed(t, b.d, sectors, nil)
			if b.e = was; wantEither(t, "behind a death", b.d, generation, was, would) {
				b.e = would
			}
			b.reopen()
			b.makes(len(b.e.keys)+1, secret(3), 5, 24)
			b.reopen()
		}
	}
}

// dies is a NewKey in which the disk dies; another one, and a text, are refused behind it.
func (b *both) dies(s string, keep, now int) {
	b.t.Helper()
	if n, errno := access.NewKey(b.x, s, keep, now); n != 0 || errno != api.ErrDead {
		b.t.Fatalf("it died: %d, %d", n, errno)
	}
	b.e.see(now)
	b.dead(example, now)
	if n, errno := access.NewKey(b.x, s, keep, now); n != 0 || errno != api.ErrDead {
		b.t.Fatalf("it is dead: %d, %d", n, errno)
	}
}

// A5: the acts of a NewKey are those of one commit: pages, a sync, a head, a sync.
func TestNewKeyActs(t *testing.T) {
	d, errno := disk.New(16)
	wantErrno(t, "New", errno, api.OK)
	wantErrno(t, "Format", table.Format(d), api.OK)
	x := opened(t, d)
	acts := d.Acts()
	n, errno := access.NewKey(x, secret(1), 5, 9)
	if n != 1 || errno != api.OK || d.Acts() != acts+4 || len(d.Pending()) > 0 {
		t.Fatalf("%d, %d: %d acts, %d pending", n, errno, d.Acts()-acts, len(d.Pending()))
	}
	if l, errno := opened(t, loaded(t, d.Blocks())).Keys(); errno != api.OK || len(l) != 1 || l[0] != (api.Key{Number: 1, Secret: secret(1), From: 9, Until: lastTime}) {
		t.Fatalf("%v, %d", l, errno)
	}
}
