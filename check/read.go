package check

import (
	"slices"
	"sync"

	"latchkey/api"
	"latchkey/node"
	"latchkey/pager"
)

// readers is how many goroutines read at the same time.
const readers = 8

// read reads all pages to which the walk will come, each once, and finds what hangs on a page alone. What they name is read in the next round, for nobody knows of it earlier.
func (l *look) read() {
	due := l.unread([]int{l.head.root})
	for len(due) > 0 {
		l.readSome(due)
		due = l.unread(l.kids(due))
	}
}

// readSome reads pages that are due, by several goroutines, which have ended when it is back.
func (l *look) readSome(due []int) {
	var all sync.WaitGroup
	for first := range min(readers, len(due)) {
		all.Add(1)
		go func() {
			defer all.Done()
			for i := first; i < len(due); i += readers {
				l.readPage(due[i])
			}
		}()
	}
	all.Wait()
}

// readPage reads one page. The lock is taken for what is told alone, so that all may read.
func (l *look) readPage(number int) {
	p, right := l.pageOn(number)
	if !right {
		l.find(api.FindPage, number)
		return
	}
	n, errno := node.Parse(p)
	if errno != api.OK {
		l.find(api.FindNode, number)
		return
	}
	l.keep(number, n)
	if number != l.head.root && node.Size(n) < api.NodePoor {
		l.find(api.FindNode, number)
	}
}

// pageOn is the page on a block; is it right?
func (l *look) pageOn(number int) (api.Page, bool) {
	p, errno := pager.ParsePage(l.blocks[number])
	if errno != api.OK || p.Number != number || p.Birth > l.head.generation {
		return api.Page{}, false
	}
	return p, !slices.ContainsFunc(p.Links, l.isBeyond)
}

// isBeyond: does no block have that number? (One below the first page's is none that a page may name.)
func (l *look) isBeyond(link int) bool {
	return link >= len(l.blocks)
}

// kids are the pages that some pages name.
func (l *look) kids(pages []int) []int {
	var all []int
	for _, page := range pages {
		all = append(all, l.nodes[page].Kids...)
	}
	return all
}

// unread are those of some pages that are not read yet, each once; from here on they count as read.
func (l *look) unread(pages []int) []int {
	var due []int
	for _, page := range pages {
		if _, is := l.nodes[page]; !is {
			l.keep(page, api.Node{})
			due = append(due, page)
		}
	}
	return due
}
