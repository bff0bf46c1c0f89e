package table

import (
	"math"
	"slices"

	"latchkey/api"
	"latchkey/check"
	"latchkey/clock"
	"latchkey/disk"
	"latchkey/pager"
	"latchkey/record"
	"latchkey/tree"
)

// Open finds the table that stands on a disk; indexes that are not as they must be are made anew.
func Open(d *disk.Disk) (*Table, api.Errno) {
	p, errno := pager.Mount(d)
	if errno != api.OK {
		return nil, errno
	}
	next, now, wrong := record.ParseNote(p.Note())
	if wrong != api.OK || !isSound(d) {
		return nil, api.ErrTableForm
	}
	t := &Table{
		kinds: allKinds(),
		pager: p,
		clock: clock.New(now),
		pairs: &pairs{tree.Open(p), map[string]change{}},
		next:  next,
	}
	l, errno := t.look()
	if errno != api.OK {
		return nil, errno
	}
	if !l.belong(next, now) {
		return nil, api.ErrTableForm
	}
	if errno := t.mend(l); errno != api.OK {
		return nil, errno
	}
	return t, api.OK
}

// isSound: does a look at what stands on a disk find nothing? The pager looks at pages alone, not at the tree that they are.
func isSound(d *disk.Disk) bool {
	var blocks []string
	for n := range d.Size() {
		block, errno := d.Read(n)
		if errno != api.OK {
			return false
		}
		blocks = append(blocks, block)
	}
	findings, errno := check.Image(blocks)
	return errno == api.OK && len(findings) == 0
}

// look tells apart what stands; ErrTableForm, if a pair is nothing of all that.
func (t *Table) look() (*found, api.Errno) {
	all, errno := t.pairs.stood("", "", math.MaxInt)
	if errno != api.OK {
		return nil, errno
	}
	l := &found{}
	shelves := l.shelves(t.kinds)
	for _, p := range all {
		at := slices.IndexFunc(shelves, func(s shelf) bool { return s.letter == p.Key[:1] })
		if at < 0 || !shelves[at].take(p) {
			return nil, api.ErrTableForm
		}
	}
	return l, api.OK
}

// mend puts the indexes right, if they are not. What was noted with the last commit is noted again, for no ID was given since, and no reading seen.
func (t *Table) mend(l *found) api.Errno {
	slices.SortFunc(l.due, byKey)
	if slices.Equal(l.entries, l.due) {
		return api.OK
	}
	for _, p := range l.entries {
		t.pairs.drop(p.Key)
	}
	for _, p := range l.due {
		t.pairs.put(p)
	}
	return t.Commit()
}
