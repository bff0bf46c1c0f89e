package tree

import (
	"latchkey/api"
	"latchkey/node"
	"latchkey/pager"
)

// step is a node on the way down, and a place in it: of an inner node that of the kid to which the way goes on, of a leaf how many of its pairs lie ahead of it.
type step struct {
	node api.Node
	at   int
}

// walk goes over the pairs of a tree that stands.
type walk struct {
	pages *pages
	way   stack[step]
}

// choice is to which place of a node a way goes on.
type choice func(n api.Node) int

func toFirst(n api.Node) int { return 0 }

func toLast(n api.Node) int { return len(n.Keys) } // for an inner node has one more of kids

func toKey(key string) choice {
	return func(n api.Node) int {
		at, _ := node.Find(n, key)
		return at
	}
}

// course is in which direction a walk goes on.
type course struct {
	begin, end choice
	by         int
}

func upward() course { return course{toFirst, toLast, 1} }

func downward() course { return course{toLast, toFirst, -1} }

// start goes from the root down to a leaf; there is none, if the tree is empty. The disk is asked ahead of all, whether there is something to read or not.
func start(p *pager.Pager, root int, choose choice) (*walk, api.Errno) {
	if _, errno := p.Next(0); errno != api.OK {
		return nil, errno
	}
	w := &walk{pages: pagesOf(p, root)}
	if root == 0 {
		return w, api.OK
	}
	return w, w.down(root, choose)
}

// down goes from a page down to a leaf, and notes each step.
func (w *walk) down(number int, choose choice) api.Errno {
	for {
		n, errno := w.pages.read(number)
		if errno != api.OK {
			return errno
		}
		at := choose(n)
		w.way.push(step{n, at})
		if n.Leaf {
			return api.OK
		}
		number = n.Kids[at]
	}
}

// next is the pair that comes next on a course, if there is one; the walk goes past it.
func (w *walk) next(c course) (api.Pair, bool, api.Errno) {
	for s, is := w.way.pop(); is; s, is = w.way.pop() {
		if s.at == c.end(s.node) {
			continue
		}
		to := s.at + c.by
		w.way.push(step{s.node, to})
		if s.node.Leaf {
			return pairAt(s.node, min(s.at, to)), true, api.OK // it stands between both places
		}
		if errno := w.down(s.node.Kids[to], c.begin); errno != api.OK {
			return api.Pair{}, false, errno
		}
	}
	return api.Pair{}, false, api.OK
}

// take are the pairs that come next on a course, so many at the most, up to the first one that is past the end.
func (w *walk) take(c course, most int, isPast func(key string) bool) ([]api.Pair, api.Errno) {
	var l []api.Pair
	for len(l) < most {
		pair, is, errno := w.next(c)
		if errno != api.OK {
			return nil, errno
		}
		if !is || isPast(pair.Key) {
			break
		}
		l = append(l, pair)
	}
	return l, api.OK
}

func pairAt(leaf api.Node, at int) api.Pair {
	return api.Pair{Key: leaf.Keys[at], Value: leaf.Values[at]}
}
