package tree

import (
	"slices"

	"latchkey/api"
	"latchkey/node"
	"latchkey/pager"
)

// draft is a tree in memory, as changes make it of the one that stands. A node is named by the page that it stands on, or, if it stands on none yet, by a number that no page has.
type draft struct {
	pages   *pages
	root    int
	touched map[int]api.Node // by their names: all that were taken into memory or made there
	gone    []int            // the pages of those that were taken into memory
	made    int              // how many were made there
}

// turn is a node on the way down, by its name, and the place of the kid to which the way goes on.
type turn struct {
	name, at int
}

func newDraft(p *pager.Pager) *draft {
	return &draft{pages: pagesOf(p, p.Root()), root: p.Root(), touched: map[int]api.Node{}}
}

// applyAll makes changes, by rising keys.
func (d *draft) applyAll(l changes) api.Errno {
	for _, key := range l.keys() {
		if errno := d.apply(key, l[key]); errno != api.OK {
			return errno
		}
	}
	return api.OK
}

// apply makes one change, and puts all nodes on the way to it right.
func (d *draft) apply(key string, c change) api.Errno {
	way, errno := d.wayTo(key)
	if errno != api.OK {
		return errno
	}
	leaf, _ := way.pop()
	d.touched[leaf.name] = changed(d.touched[leaf.name], key, c)
	for parent, is := way.pop(); is; parent, is = way.pop() {
		if errno := d.settle(parent.name, parent.at); errno != api.OK {
			return errno
		}
	}
	return d.settleRoot()
}

// wayTo touches all nodes from the root down to the leaf of a key.
func (d *draft) wayTo(key string) (stack[turn], api.Errno) {
	var way stack[turn]
	if d.root == 0 {
		d.root = d.add(api.Node{Leaf: true})
	}
	for name := d.root; ; {
		n, errno := d.touch(name)
		if errno != api.OK {
			return stack[turn]{}, errno
		}
		at, _ := node.Find(n, key)
		way.push(turn{name, at})
		if n.Leaf {
			return way, api.OK
		}
		name = n.Kids[at]
	}
}

// touch is a node by its name, taken into memory.
func (d *draft) touch(name int) (api.Node, api.Errno) {
	if n, is := d.touched[name]; is {
		return n, api.OK
	}
	n, errno := d.pages.read(name)
	if errno != api.OK {
		return api.Node{}, errno
	}
	d.touched[name] = n
	d.gone = append(d.gone, name)
	return n, api.OK
}

// add takes in a node that stands on no page yet.
func (d *draft) add(n api.Node) int {
	name := api.MaxBlocks + d.made
	d.made++
	d.touched[name] = n
	return name
}

// changed is a leaf whose key has its value, or is gone.
func changed(leaf api.Node, key string, c change) api.Node {
	at, there := node.Find(leaf, key)
	if there {
		leaf.Keys = slices.Delete(leaf.Keys, at, at+1)
		leaf.Values = slices.Delete(leaf.Values, at, at+1)
	}
	if !c.gone {
		leaf.Keys = slices.Insert(leaf.Keys, at, key)
		leaf.Values = slices.Insert(leaf.Values, at, c.value)
	}
	return leaf
}

// settle puts a kid right: it is parted if it is too great, put together with a neighbour if it is poor.
func (d *draft) settle(parent, at int) api.Errno {
	kid := d.touched[d.touched[parent].Kids[at]]
	switch size := node.Size(kid); {
	case size > api.NodeRoom:
		return d.part(parent, at)
	case size < api.NodePoor:
		return d.unite(parent, max(at-1, 0)) // the first kid has none ahead of it, and takes the one behind it
	}
	return api.OK
}

// part parts a kid in two.
func (d *draft) part(parent, at int) api.Errno {
	p := d.touched[parent]
	left, key, right, errno := node.Split(d.touched[p.Kids[at]])
	if errno != api.OK {
		return api.ErrTreeForm
	}
	d.touched[p.Kids[at]] = left
	p.Keys = slices.Insert(p.Keys, at, key)
	p.Kids = slices.Insert(p.Kids, at+1, d.add(right))
	d.touched[parent] = p
	return api.OK
}

// unite puts a kid and the one behind it together, and parts them anew if that is too great for one.
func (d *draft) unite(parent, at int) api.Errno {
	p := d.touched[parent]
	left, right := p.Kids[at], p.Kids[at+1]
	both, errno := d.joined(left, p.Keys[at], right)
	if errno != api.OK {
		return errno
	}
	d.touched[left] = both
	p.Keys = slices.Delete(p.Keys, at, at+1)
	p.Kids = slices.Delete(p.Kids, at+1, at+2)
	d.touched[parent] = p
	if node.Size(both) > api.NodeRoom {
		return d.part(parent, at)
	}
	return api.OK
}

// joined is what comes of two nodes by their names, of which one may not have been touched yet.
func (d *draft) joined(left int, key string, right int) (api.Node, api.Errno) {
	a, errno := d.touch(left)
	if errno != api.OK {
		return api.Node{}, errno
	}
	b, errno := d.touch(right)
	if errno != api.OK {
		return api.Node{}, errno
	}
	both, errno := node.Join(a, key, b)
	if errno != api.OK {
		return api.Node{}, api.ErrTreeForm
	}
	return both, api.OK
}

// settleRoot parts the root below a new one, if it is too great; else it takes roots away that have no keys. What is left of such a one is in memory, for it was put together there.
func (d *draft) settleRoot() api.Errno {
	if node.Size(d.touched[d.root]) > api.NodeRoom {
		d.root = d.add(api.Node{Kids: []int{d.root}})
		return d.part(d.root, 0)
	}
	for n := d.touched[d.root]; len(n.Keys) == 0; n = d.touched[d.root] {
		if n.Leaf {
			d.root = 0
			return api.OK
		}
		d.root = n.Kids[0]
	}
	return api.OK
}
