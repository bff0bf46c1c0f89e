package node

import (
	"slices"

	"latchkey/api"
	"latchkey/codec"
)

const countSize = 1 // bytes of how many keys there are; a right node has fewer than 256

// Page is a node as a page (its kind, links and body).
func Page(n api.Node) (api.Page, api.Errno) {
	if errno := wrong(n); errno != api.OK {
		return api.Page{}, errno
	}
	if n.Leaf {
		return api.Page{Kind: api.PageLeaf, Body: body(n)}, api.OK
	}
	return api.Page{Kind: api.PageInner, Links: slices.Clone(n.Kids), Body: body(n)}, api.OK
}

// wrong is why a node is not right.
func wrong(n api.Node) api.Errno {
	switch {
	case !hasForm(n):
		return api.ErrNodeForm
	case !keysMayBe(n.Keys):
		return api.ErrNodeKey
	case Size(n) > api.NodeRoom:
		return api.ErrNodeFull
	}
	return api.OK
}

// body is that of a right node.
func body(n api.Node) string {
	w := codec.NewWriter()
	w.Num(countSize, len(n.Keys))
	for i, key := range n.Keys {
		w.Text(api.MaxKey, key)
		if n.Leaf {
			w.Text(api.MaxValue, n.Values[i])
		}
	}
	text, _ := w.Done() // whatever stands in a right node has its room there
	return text
}

// Parse reads a node of a page.
func Parse(p api.Page) (api.Node, api.Errno) {
	if !isNodes(p) {
		return api.Node{}, api.ErrNodeForm
	}
	n, whole := guess(p)
	if !whole || wrong(n) != api.OK {
		return api.Node{}, api.ErrNodeForm
	}
	return n, api.OK
}

// isNodes: has a page the kind of a node's, and no links if it is a leaf's?
func isNodes(p api.Page) bool {
	return p.Kind == api.PageInner || p.Kind == api.PageLeaf && len(p.Links) == 0
}

// guess is what a page seems to say, and whether its body says just that.
func guess(p api.Page) (api.Node, bool) {
	n := api.Node{Leaf: p.Kind == api.PageLeaf}
	if !n.Leaf {
		n.Kids = slices.Clone(p.Links)
	}
	r := codec.NewReader(p.Body)
	for range r.Num(countSize) {
		n.Keys = append(n.Keys, r.Text(api.MaxKey))
		if n.Leaf {
			n.Values = append(n.Values, r.Text(api.MaxValue))
		}
	}
	return n, r.Done() == api.OK
}
