package pager

import (
	"slices"
	"strings"

	"latchkey/api"
	"latchkey/disk"
)

// Commit writes fresh pages, and then the head that tells of them; those that are gone come free.
func (p *Pager) Commit(fresh []api.Page, root int, note string, gone []int) api.Errno {
	if !isNote(note) {
		return api.ErrArg
	}
	numbers := numbersOf(fresh)
	if !allMayBe(fresh) || !rises(numbers) || !rises(gone) {
		return api.ErrPagerPage
	}
	if errno := p.ask(); errno != api.OK {
		return errno
	}
	if !slices.Equal(numbers, p.use.least(len(numbers), isFree)) || !p.reachesAll(gone) {
		return api.ErrPagerPage
	}
	after := p.use.turned(numbers, gone)
	if !closed(after, fresh, root) {
		return api.ErrPagerPage
	}
	if p.last.generation == maxGeneration {
		return api.ErrPagerWorn
	}
	next := head{p.last.generation + 1, root, p.last.blocks, strings.Clone(note)}
	return p.turn(fresh, next, after)
}

// turn makes a head the last one, by its acts. If one of these fails, nobody can tell which head lasts: the pager stays with the one that it had, in doubt.
func (p *Pager) turn(fresh []api.Page, next head, after usage) (errno api.Errno) {
	last, before := p.last, p.use
	p.last, p.use = next, after
	defer func() {
		if errno != api.OK {
			p.last, p.use, p.doubt = last, before, true
		}
	}()
	if errno := writePages(p.disk, fresh, next.generation); errno != api.OK {
		return errno
	}
	return writeHead(p.disk, next)
}

// writePages writes pages that were born in a generation. They last ahead of the head that tells of them.
func writePages(d *disk.Disk, fresh []api.Page, generation int) api.Errno {
	for _, p := range fresh {
		p.Birth = generation
		block, errno := PrintPage(p)
		if errno != api.OK {
			return errno
		}
		if errno := d.Write(p.Number, block); errno != api.OK {
			return errno
		}
	}
	return d.Sync()
}

// writeHead writes a head where it is right.
func writeHead(d *disk.Disk, h head) api.Errno {
	block, errno := PrintHead(h.generation, h.root, h.blocks, h.note)
	if errno != api.OK {
		return errno
	}
	if errno := d.Write(h.block(), block); errno != api.OK {
		return errno
	}
	return d.Sync()
}

// reachesAll: are all these reached?
func (p *Pager) reachesAll(l []int) bool {
	for _, n := range l {
		if !p.use.has(n, reached) {
			return false
		}
	}
	return true
}

// closed: do the root, and the links of fresh pages, name only what is reached then?
func closed(after usage, fresh []api.Page, root int) bool {
	if root != 0 && !after.has(root, reached) {
		return false
	}
	for _, p := range fresh {
		for _, n := range p.Links {
			if !after.has(n, reached) {
				return false
			}
		}
	}
	return true
}

// allMayBe: may all these be, whatever their Births?
func allMayBe(fresh []api.Page) bool {
	for _, p := range fresh {
		if !mayBeFresh(p) {
			return false
		}
	}
	return true
}

func numbersOf(pages []api.Page) []int {
	l := make([]int, len(pages))
	for n, p := range pages {
		l[n] = p.Number
	}
	return l
}

// rises: is each one above the one ahead of it?
func rises(l []int) bool {
	for n := range len(l) - 1 {
		if l[n] >= l[n+1] {
			return false
		}
	}
	return true
}
