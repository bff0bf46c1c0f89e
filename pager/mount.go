package pager

import (
	"latchkey/api"
	"latchkey/disk"
)

// Format lays an empty store on a disk, with a note.
func Format(d *disk.Disk, note string) api.Errno {
	if !isNote(note) {
		return api.ErrArg
	}
	if d.Dead() {
		return api.ErrDead
	}
	if _, there := headThatCounts(d); there {
		return api.ErrPagerThere
	}
	first := head{generation: 1, blocks: d.Size(), note: note}
	if errno := d.Write(0, filled("", api.BlockSize)); errno != api.OK {
		return errno
	}
	return writeHead(d, first)
}

// Mount finds the store that stands on a disk.
func Mount(d *disk.Disk) (*Pager, api.Errno) {
	if d.Dead() {
		return nil, api.ErrDead
	}
	last, there := headThatCounts(d)
	if !there {
		return nil, api.ErrPagerForm
	}
	u, right := reach(d, last)
	if !right {
		return nil, api.ErrPagerForm
	}
	return &Pager{disk: d, last: last, use: u}, api.OK
}

// reach is what a head reaches, if it reaches rightly. It ends, for a page that comes twice ends it.
func reach(d *disk.Disk, h head) (usage, bool) {
	u := make(usage, h.blocks)
	var left []int
	if h.root != 0 {
		left = append(left, h.root)
	}
	for len(left) > 0 {
		n := left[len(left)-1]
		left = left[:len(left)-1]
		p, right := pageOn(d, n)
		if !right || p.Birth > h.generation || u.has(n, reached) {
			return nil, false
		}
		u[n] = reached
		left = append(left, p.Links...)
	}
	return u, true
}

// pageOn is the page on a block; does it belong there?
func pageOn(d *disk.Disk, n int) (api.Page, bool) {
	s, errno := d.Read(n)
	if errno != api.OK {
		return api.Page{}, false
	}
	p, errno := ParsePage(s)
	return p, errno == api.OK && p.Number == n
}
