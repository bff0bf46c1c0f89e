package node

import (
	"cmp"
	"slices"
	"strings"

	"latchkey/api"
)

const (
	maxCell  = 2*lengthSize + api.MaxKey + api.MaxValue
	maxSplit = api.NodeRoom + maxCell // a right node has this at most, when one more cell has come to it
)

// Split parts a node in two, and tells the key between.
func Split(n api.Node) (api.Node, string, api.Node, api.Errno) {
	if errno := wrongSplit(n); errno != api.OK {
		return api.Node{}, "", api.Node{}, errno
	}
	at := place(n)
	left, right := sides(n, at)
	return copied(left), keyBetween(n, at), copied(right), api.OK
}

// wrongSplit is why a node can't be split. One that can be has three keys at least, for two with all that belongs to them have no 481 bytes.
func wrongSplit(n api.Node) api.Errno {
	size := Size(n)
	switch {
	case !hasForm(n):
		return api.ErrNodeForm
	case !keysMayBe(n.Keys):
		return api.ErrNodeKey
	case size <= api.NodeRoom || size > maxSplit:
		return api.ErrNodePart
	}
	return api.OK
}

// ends are the sizes on both sides of a cut.
type ends struct {
	left, right int
}

func (e ends) greater() int { return max(e.left, e.right) }

func byGreater(a, b ends) int { return cmp.Compare(a.greater(), b.greater()) }

// place is where a node is cut. No two places have the same ends, for what is left of them grows from each to the next.
func place(n api.Node) int {
	all := allEnds(n)
	best := slices.MinFunc(all, byGreater) // of several the first
	at := 0
	for all[at] != best {
		at++
	}
	return at + 1
}

// allEnds are those of all places, from the place 1 on.
func allEnds(n api.Node) []ends {
	last := len(n.Keys) - 1
	if !n.Leaf {
		last-- // the key at the place belongs to neither side, and none may be without keys
	}
	all := make([]ends, last)
	for i := range all {
		left, right := sides(n, i+1)
		all[i] = ends{Size(left), Size(right)}
	}
	return all
}

// sides are the two parts of a node that is cut at a place; they share its memory.
func sides(n api.Node, at int) (api.Node, api.Node) {
	behind := at
	if !n.Leaf {
		behind++
	}
	return part(n, 0, at), part(n, behind, len(n.Keys))
}

// part is what belongs to the keys from one place on, up to another one. It has no spare room, for what stands behind it is not its own.
func part(n api.Node, from, to int) api.Node {
	if n.Leaf {
		return api.Node{Leaf: true, Keys: n.Keys[from:to:to], Values: n.Values[from:to:to]}
	}
	return api.Node{Keys: n.Keys[from:to:to], Kids: n.Kids[from : to+1 : to+1]}
}

// keyBetween is the key that parts the sides of a cut.
func keyBetween(n api.Node, at int) string {
	if n.Leaf {
		return Between(n.Keys[at-1], n.Keys[at])
	}
	return strings.Clone(n.Keys[at])
}

// copied is a node that shares no memory with what it was made of.
func copied(n api.Node) api.Node {
	return api.Node{Leaf: n.Leaf, Keys: copiedTexts(n.Keys), Values: copiedTexts(n.Values), Kids: slices.Clone(n.Kids)}
}

func copiedTexts(l []string) []string {
	var texts []string
	for _, s := range l {
		texts = append(texts, strings.Clone(s))
	}
	return texts
}
