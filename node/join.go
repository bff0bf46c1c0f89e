package node

import (
	"slices"

	"latchkey/api"
)

// Join puts two nodes together, with the key between.
func Join(a api.Node, key string, b api.Node) (api.Node, api.Errno) {
	switch {
	case !mayJoin(a) || !mayJoin(b):
		return api.Node{}, api.ErrNodeForm
	case !keysMayBe(a.Keys) || !keysMayBe(b.Keys) || isNoKey(key):
		return api.Node{}, api.ErrNodeKey
	case !goTogether(a, key, b):
		return api.Node{}, api.ErrNodePart
	}
	n := joined(a, key, b)
	if Size(n) > maxSplit {
		return api.Node{}, api.ErrNodeFull
	}
	return copied(n), api.OK
}

// mayJoin: may a node be put together with another one? A leaf may have lost its last key.
func mayJoin(n api.Node) bool {
	return agrees(n) && (n.Leaf || len(n.Keys) > 0) && Size(n) <= api.NodeRoom
}

// goTogether: are two nodes of one kind, does the key part theirs, and have they no kid in common? The keys of each rise.
func goTogether(a api.Node, key string, b api.Node) bool {
	if a.Leaf != b.Leaf || len(a.Keys) > 0 && a.Keys[len(a.Keys)-1] >= key {
		return false
	}
	if a.Leaf {
		return len(b.Keys) == 0 || b.Keys[0] >= key
	}
	return b.Keys[0] > key && areUnlike(slices.Concat(a.Kids, b.Kids))
}

// joined is what comes of two nodes that go together; its texts are theirs.
func joined(a api.Node, key string, b api.Node) api.Node {
	if a.Leaf {
		return api.Node{Leaf: true, Keys: slices.Concat(a.Keys, b.Keys), Values: slices.Concat(a.Values, b.Values)}
	}
	return api.Node{Keys: slices.Concat(a.Keys, []string{key}, b.Keys), Kids: slices.Concat(a.Kids, b.Kids)}
}
