package pager_test

import (
	"testing"

	"latchkey/api"
	"latchkey/disk"
	"latchkey/pager"
)

// asks are the calls that ask a disk: each answers ErrDead, if that is dead or the pager in doubt.
func asks(t *testing.T) map[string]func(p *pager.Pager) {
	return map[string]func(p *pager.Pager){
		"Next(0)":   func(p *pager.Pager) { t.Helper(); wantNoNext(t, p, 0, api.ErrDead) },
		"Next(2)":   func(p *pager.Pager) { t.Helper(); wantNoNext(t, p, 2, api.ErrDead) },
		"Next(all)": func(p *pager.Pager) { t.Helper(); wantNoNext(t, p, most, api.ErrDead) },
		"Read(2)":   func(p *pager.Pager) { t.Helper(); wantNoRead(t, p, 2, api.ErrDead) },
		"Read(7)":   func(p *pager.Pager) { t.Helper(); wantNoRead(t, p, 7, api.ErrDead) },
		"Read(-1)":  func(p *pager.Pager) { t.Helper(); wantNoRead(t, p, -1, api.ErrDead) },
		"Commit":    func(p *pager.Pager) { t.Helper(); wantCommit(t, p, nil, p.Root(), n16, nil, api.ErrDead) },
		"Commit of what may not be here": func(p *pager.Pager) {
			t.Helper()
			wantCommit(t, p, []api.Page{page(4095, "a", 4094)}, 999, n16, []int{-1}, api.ErrDead)
		},
		"Pin":       func(p *pager.Pager) { t.Helper(); wantPin(t, p, 0, api.ErrDead) },
		"Unpin(1)":  func(p *pager.Pager) { t.Helper(); wantErrno(t, "Unpin", p.Unpin(1), api.ErrDead) },
		"Unpin(-1)": func(p *pager.Pager) { t.Helper(); wantErrno(t, "Unpin", p.Unpin(-1), api.ErrDead) },
	}
}

// refuses are calls that answer what hangs on their arguments alone, dead or not.
func refuses(t *testing.T, p *pager.Pager) {
	t.Helper()
	wantNoNext(t, p, -1, api.ErrArg)
	wantNoNext(t, p, least, api.ErrArg)
	wantCommit(t, p, nil, 0, n16[1:], nil, api.ErrArg)
	wantCommit(t, p, []api.Page{{}}, 0, n16, nil, api.ErrPagerPage)
	wantCommit(t, p, nil, 0, n16, []int{3, 2}, api.ErrPagerPage)
}

// wantInDoubt: each call that asks the disk answers ErrDead, and what a pager tells it tells still.
func wantInDoubt(t *testing.T, p *pager.Pager) {
	t.Helper()
	if !p.Doubt() {
		t.Fatal("it is not in doubt")
	}
	generation, root, note, reached := p.Generation(), p.Root(), p.Note(), p.Reached()
	free, held := p.Free(), p.Held()
	for _, ask := range asks(t) {
		ask(p)
	}
	refuses(t, p)
	wantLast(t, p, generation, root, note, reached...)
	wantRoom(t, p, free, held)
	if !p.Doubt() {
		t.Fatal("it is in doubt no more")
	}
}

// R3: the first call that answers ErrDead brings the doubt, whichever it is; the disk's life does not take it away.
func TestDoubt(t *testing.T) {
	for name, ask := range asks(t) {
		d, p := grown(t)
		wantPin(t, p, 1, api.OK)
		kill(t, d)
		was := stateOf(d)
		refuses(t, p)
		if p.Doubt() {
			t.Fatal("a doubt without an ErrDead")
		}
		ask(p)
		if !p.Doubt() {
			t.Fatalf("%s: no doubt behind an ErrDead", name)
		}
		wantInDoubt(t, p)
		wantUntouched(t, name, d, was)
		revive(t, d)
		wantInDoubt(t, p)
		wantErrno(t, "Arm", d.Arm(1), api.OK)
		wantInDoubt(t, p)
		wantErrno(t, "Arm", d.Arm(0), api.OK)
		wantMounted(t, d, 3, 4, m16, born(page(2, "two"), 2), born(page(3, "three"), 2), born(page(4, "four", 2, 3), 3))
	}
}

// R3: a death of which no call was told brings no doubt: a crash of a disk on which nothing is pending changes nothing for a pager.
func TestNoDoubt(t *testing.T) {
	d, p := grown(t)
	wantPin(t, p, 1, api.OK)
	for range 3 {
		kill(t, d)
		refuses(t, p)
		revive(t, d)
		wantNext(t, p, 5)
		wantRead(t, p, born(page(2, "two"), 2))
		revive(t, d)
	}
	wantCommit(t, p, []api.Page{page(5, "five", 2, 3)}, 5, n16, []int{4}, api.OK)
	wantErrno(t, "Unpin", p.Unpin(1), api.OK)
	if p.Doubt() {
		t.Error("a doubt without an ErrDead")
	}
}

// R3: a doubt is one pager's; another one of the same disk, and those of other disks, know nothing of it.
func TestDoubtIsItsOwn(t *testing.T) {
	d, p := grown(t)
	other, q := grown(t)
	reader := mounted(t, d)
	kill(t, d)
	wantNoNext(t, p, 0, api.ErrDead)
	if !p.Doubt() || q.Doubt() || reader.Doubt() {
		t.Fatal("another one is in doubt")
	}
	wantCommit(t, q, nil, 4, n16, nil, api.OK)
	revive(t, d)
	wantInDoubt(t, p)
	wantRead(t, reader, born(page(2, "two"), 2))
	if other.Dead() || q.Doubt() || reader.Doubt() {
		t.Fatal("another one is in doubt")
	}
}

// R3: a store is opened anew: the pager that is mounted is not in doubt, and the one ahead of it is so still.
func TestOpenedAnew(t *testing.T) {
	d, p := grown(t)
	wantErrno(t, "Arm", d.Arm(2), api.OK)
	wantCommit(t, p, nil, 4, n16, nil, api.ErrDead)
	if q, errno := pager.Mount(d); q != nil || errno != api.ErrDead {
		t.Fatalf("Mount: %d", errno)
	}
	revive(t, d)
	q := mounted(t, d)
	wantCommit(t, q, []api.Page{page(5, "five", 2, 3)}, 5, n16, []int{4}, api.OK)
	wantInDoubt(t, p)
	wantLast(t, p, 3, 4, m16, 2, 3, 4)
	wantLast(t, q, 4, 5, n16, 2, 3, 5)
	wantMountedLike(t, d, q)
}

// wantMountedLike: what is mounted of a disk is what a pager of it has.
func wantMountedLike(t *testing.T, d *disk.Disk, p *pager.Pager) {
	t.Helper()
	q := mounted(t, d)
	wantLast(t, q, p.Generation(), p.Root(), p.Note(), p.Reached()...)
	for _, n := range p.Reached() {
		x, errno := p.Read(n)
		wantErrno(t, "Read", errno, api.OK)
		wantRead(t, q, x)
	}
}
