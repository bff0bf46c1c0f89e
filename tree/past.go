package tree

import (
	"latchkey/api"
	"latchkey/node"
	"latchkey/pager"
)

const mostPairs = 4096 // of one answer

// Past is a tree as it was.
type Past struct {
	pager *pager.Pager
	root  int
}

// At is the tree of a root that is in use.
func At(p *pager.Pager, root int) *Past {
	return &Past{p, root}
}

// Get is the value of a key.
func (t *Past) Get(key string) (string, bool, api.Errno) {
	if isNoKey(key) {
		return "", false, api.ErrTreeKey
	}
	w, errno := start(t.pager, t.root, toKey(key))
	if errno != api.OK {
		return "", false, errno
	}
	leaf, _ := w.way.pop() // of the empty tree a node of nothing
	at, there := node.Find(leaf.node, key)
	if !there {
		return "", false, api.OK
	}
	return leaf.node.Values[at], true, api.OK
}

// Scan are the first pairs from a key on, up to another one.
func (t *Past) Scan(from, to string, most int) ([]api.Pair, api.Errno) {
	if isNoCount(most) {
		return nil, api.ErrArg
	}
	return t.rising(from, to, most)
}

// rising are the first pairs from a key on, up to another one, however many are asked for.
func (t *Past) rising(from, to string, most int) ([]api.Pair, api.Errno) {
	w, errno := start(t.pager, t.root, toKey(from))
	if errno != api.OK {
		return nil, errno
	}
	return w.take(upward(), most, func(key string) bool { return isAbove(key, to) })
}

// Back are the last pairs ahead of a key, down to another one, falling.
func (t *Past) Back(from, to string, most int) ([]api.Pair, api.Errno) {
	if isNoCount(most) {
		return nil, api.ErrArg
	}
	choose := toKey(from)
	if from == "" {
		choose = toLast
	}
	w, errno := start(t.pager, t.root, choose)
	if errno != api.OK {
		return nil, errno
	}
	return w.take(downward(), most, func(key string) bool { return key < to })
}

// height is how many nodes stand from the root's down to a leaf.
func (t *Past) height() (int, api.Errno) {
	w, errno := start(t.pager, t.root, toFirst)
	if errno != api.OK {
		return 0, errno
	}
	return w.way.depth(), api.OK
}

// isAbove: does a key not stand below an end? The empty end is none.
func isAbove(key, to string) bool {
	return to != "" && key >= to
}

func isNoKey(key string) bool {
	return len(key) < 1 || len(key) > api.MaxKey
}

func isNoValue(value string) bool {
	return len(value) > api.MaxValue
}

func isNoCount(most int) bool {
	return most < 0 || most > mostPairs
}
