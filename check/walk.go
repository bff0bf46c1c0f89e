package check

import (
	"slices"

	"latchkey/api"
)

// walk goes over what was read, from the root down, and finds what hangs on the way on which one comes to a page.
func (l *look) walk() {
	w := walk{look: l, times: map[int]int{}, leaves: -1}
	w.come(place{page: l.head.root})
}

// walk is how far one is.
type walk struct {
	look   *look
	times  map[int]int // how often it came to a page
	leaves int         // the depth of the first leaf; -1: there was none yet
}

// place is where the walk comes to a page: how deep, and between which bounds. An empty bound is none, for no key is empty.
type place struct {
	page, depth  int
	lower, upper string
}

// come is what is done where the walk comes to a page. It ends, for behind each page it goes on once.
func (w *walk) come(at place) {
	w.times[at.page]++
	switch w.times[at.page] {
	case 1:
		w.goThrough(at)
	case 2:
		w.look.find(api.FindTwice, at.page)
	}
}

// goThrough goes through a page; one that has no node has no keys and no kids here.
func (w *walk) goThrough(at place) {
	n := w.look.nodes[at.page]
	if slices.ContainsFunc(n.Keys, func(key string) bool { return !at.has(key, n.Leaf) }) {
		w.look.find(api.FindOrder, at.page)
	}
	if n.Leaf && !w.isDeepAsLeaves(at.depth) {
		w.look.find(api.FindDepth, at.page)
	}
	for i := range n.Kids {
		w.come(at.kid(n, i))
	}
}

// isDeepAsLeaves: is a leaf's depth that of the first one?
func (w *walk) isDeepAsLeaves(depth int) bool {
	if w.leaves < 0 {
		w.leaves = depth
	}
	return depth == w.leaves
}

// has: does a key stand within the bounds? A leaf may begin with the lower one, for that parts it from what is ahead of it.
func (p place) has(key string, leaf bool) bool {
	above := key > p.lower || leaf && key == p.lower
	return above && (p.upper == "" || key < p.upper)
}

// kid is the place of a kid of the inner node that stands here.
func (p place) kid(n api.Node, i int) place {
	k := place{n.Kids[i], p.depth + 1, p.lower, p.upper}
	if i > 0 {
		k.lower = n.Keys[i-1]
	}
	if i < len(n.Keys) {
		k.upper = n.Keys[i]
	}
	return k
}
