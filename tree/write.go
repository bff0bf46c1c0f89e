package tree

import (
	"slices"

	"latchkey/api"
	"latchkey/node"
)

// commit writes the nodes that were touched to the least free pages.
func (d *draft) commit(note string) api.Errno {
	names := d.fromLeft(d.root, nil)
	numbers, errno := d.pages.pager.Next(len(names))
	if errno != api.OK {
		return errno
	}
	places := map[int]int{} // by names
	for i, name := range names {
		places[name] = numbers[i]
	}
	fresh, errno := d.fresh(names, places)
	if errno != api.OK {
		return errno
	}
	slices.Sort(d.gone)
	errno = d.pages.pager.Commit(fresh, placeOf(d.root, places), note, d.gone)
	if errno == api.ErrPagerPage { // what the root leads to is not what is reached
		return api.ErrTreeForm
	}
	return errno
}

// fromLeft adds the names of the touched nodes of a tree, from the left, each behind all those below it. What is above a touched node is touched, too.
func (d *draft) fromLeft(name int, names []int) []int {
	n, touched := d.touched[name]
	if !touched {
		return names
	}
	for _, kid := range n.Kids {
		names = d.fromLeft(kid, names)
	}
	return append(names, name)
}

// fresh are the pages of touched nodes, at their places.
func (d *draft) fresh(names []int, places map[int]int) ([]api.Page, api.Errno) {
	var l []api.Page
	for _, name := range names {
		n := d.touched[name]
		for i, kid := range n.Kids {
			n.Kids[i] = placeOf(kid, places)
		}
		page, errno := node.Page(n)
		if errno != api.OK {
			return nil, api.ErrTreeForm
		}
		page.Number = places[name]
		l = append(l, page)
	}
	return l, api.OK
}

// placeOf is the page of a node: the fresh one, or the one on which it stands.
func placeOf(name int, places map[int]int) int {
	if number, is := places[name]; is {
		return number
	}
	return name
}
