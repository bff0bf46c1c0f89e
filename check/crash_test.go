package check_test

import (
	"fmt"
	"math/rand"
	"slices"
	"strings"
	"testing"

	"latchkey/api"
	"latchkey/check"
	"latchkey/disk"
	"latchkey/pager"
)

// change is a key that shall have a value, or, if that is -, be gone.
type change struct{ key, value string }

// draw draws changes that grow a tree, or let it shrink.
func draw(r *rand.Rand, grows bool) []change {
	var l []change
	for range 1 + r.Intn(12) {
		c := change{far(r.Intn(90)), "-"}
		if grows == (r.Intn(5) > 0) {
			c.value = strings.Repeat("v", r.Intn(201))
		}
		l = append(l, c)
	}
	return l
}

// make makes changes, and commits them.
func (s *store) make(t *testing.T, l []change) api.Errno {
	t.Helper()
	for _, c := range l {
		if c.value == "-" {
			_, errno := s.x.Delete(c.key)
			wantErrno(t, "Delete", errno, api.OK)
			continue
		}
		wantErrno(t, "Put", s.x.Put(c.key, c.value), api.OK)
	}
	return s.x.Commit(n16)
}

// wantSound says that of what lasts on a disk nothing is found, and that it is mounted.
func wantSound(t *testing.T, what string, d *disk.Disk) {
	t.Helper()
	l := d.Blocks()
	if got, errno := check.Image(l); len(got) > 0 || errno != api.OK {
		t.Fatalf("%s: Image: %v, %d", what, got, errno)
	}
	wantMounts(t, what, l)
}

// crash brings a disk back; of what was pending all stays, nothing, or what is drawn.
func crash(t *testing.T, r *rand.Rand, d *disk.Disk, how int) {
	t.Helper()
	var l []api.Keep
	for n := range d.Pending() {
		sectors := []int{0, 255, r.Intn(256), 1 << r.Intn(8), 255 ^ 1<<r.Intn(8)}[how]
		l = append(l, api.Keep{N: n, Sectors: sectors})
	}
	wantErrno(t, "Crash", d.Crash(l), api.OK)
}

// C3, P8: scripts over a tree, with a death at every act, and a crash of whatever sectors: nothing is found in what lasts, and it is mounted.
func TestDeathAtEveryAct(t *testing.T) {
	for seed := range 4 {
		t.Run(fmt.Sprint(seed), func(t *testing.T) {
			t.Parallel()
			r := rand.New(rand.NewSource(int64(140 + seed)))
			image := began(t, 60).d.Blocks()
			for round := range 28 {
				image = dieEverywhere(t, r, image, draw(r, round/12%2 == 0))
			}
		})
	}
}

// dieEverywhere makes changes over an image, again and again, dying at one act more each time. It goes on from one of all that came of it.
func dieEverywhere(t *testing.T, r *rand.Rand, image []string, changes []change) []string {
	t.Helper()
	var all [][]string
	for act := 1; ; act++ {
		s := loaded(t, image)
		wantErrno(t, "Arm", s.d.Arm(act), api.OK)
		errno := s.make(t, changes)
		wantSound(t, "of what lasts on a dead disk", s.d)
		if errno != api.ErrDead {
			all = append(all, s.d.Blocks())
			if r.Intn(3) == 0 {
				return all[r.Intn(len(all))]
			}
			return all[len(all)-1]
		}
		how := r.Intn(5)
		crash(t, r, s.d, how)
		wantSound(t, fmt.Sprintf("death at the act %d, crash %d", act, how), s.d)
		all = append(all, s.d.Blocks())
	}
}

// C3: many commits, deaths at acts drawn at random, and a store that goes on behind them, with pins.
func TestLongLife(t *testing.T) {
	t.Parallel()
	r := rand.New(rand.NewSource(150))
	s := began(t, 90)
	deaths := 0
	for round := range 500 {
		if r.Intn(3) == 0 {
			s.d.Arm(1 + r.Intn(20))
		}
		if r.Intn(4) == 0 {
			s.p.Pin()
		}
		if errno := s.make(t, draw(r, round/20%2 == 0)); errno == api.ErrPagerFull {
			s.x.Abort()
			for pin := range 5 {
				s.p.Unpin(pin)
			}
		}
		wantSound(t, "what lasts", s.d)
		if s.d.Dead() {
			deaths++
			crash(t, r, s.d, r.Intn(5))
			wantSound(t, "behind a crash", s.d)
			s = mounted(t, s.d)
		}
	}
	if deaths < 50 {
		t.Fatalf("%d deaths", deaths)
	}
}

// C3: what no crash leaves is found: a page of the last commit of which one sector is an older one's.
func TestTorn(t *testing.T) {
	s := began(t, 40)
	for n := range 10 {
		wantErrno(t, "Put", s.x.Put(far(n), strings.Repeat("a", 200)), api.OK)
	}
	wantErrno(t, "Commit", s.x.Commit(n16), api.OK)
	l := s.d.Blocks()
	for _, n := range s.p.Reached() {
		for sector := range 8 {
			torn := slices.Clone(l)
			torn[n] = put(l[n], 64*sector, strings.Repeat("?", 64))
			wantFound(t, "a torn page", torn, api.FindPage, n)
		}
	}
}

// C3: pages that a pager committed and that are trees, whoever made them.
func TestCommittedByHand(t *testing.T) {
	d, errno := disk.New(20)
	wantErrno(t, "New", errno, api.OK)
	wantErrno(t, "Format", pager.Format(d, n16), api.OK)
	p, errno := pager.Mount(d)
	wantErrno(t, "Mount", errno, api.OK)
	var fresh []api.Page
	for n := 2; n <= 12; n++ {
		page := high()[n]
		page.Number = n
		fresh = append(fresh, page)
	}
	wantErrno(t, "Commit", p.Commit(fresh, 2, n16, nil), api.OK)
	wantSound(t, "by hand", d)
	wantTally(t, "by hand", d.Blocks(), 11, 7, 12)
	wantErrno(t, "Commit", p.Commit([]api.Page{of(leaf("x"), 13)}, 13, n16, nil), api.OK)
	wantTally(t, "a leaf beside it, and pages that nobody comes to", d.Blocks(), 1, 17, 1)
}
