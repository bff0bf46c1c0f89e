package tree_test

import (
	"maps"
	"slices"
	"testing"

	"latchkey/api"
	"latchkey/node"
	"latchkey/pager"
)

// knot is a node in memory, as T7's words have it: with the page that it stands on (0: none), and its kids themselves.
type knot struct {
	page         int
	touched      bool
	leaf         bool
	keys, values []string
	kids         []*knot
}

// account is T7 done by its own words: all nodes are taken into memory, one change after the other is made.
type account struct {
	root  *knot // nil: the tree is empty
	stood []*knot
	turns map[string]int // how often what was done
}

// takenIn is the account of the tree of a pager.
func takenIn(t *testing.T, p *pager.Pager) *account {
	t.Helper()
	a := &account{turns: map[string]int{}}
	if p.Root() != 0 {
		a.root = a.take(t, p, p.Root())
	}
	return a
}

func (a *account) take(t *testing.T, p *pager.Pager, number int) *knot {
	t.Helper()
	page, errno := p.Read(number)
	wantErrno(t, "Read", errno, api.OK)
	n, errno := node.Parse(page)
	wantErrno(t, "Parse", errno, api.OK)
	k := &knot{page: number, leaf: n.Leaf, keys: n.Keys, values: n.Values}
	for _, kid := range n.Kids {
		k.kids = append(k.kids, a.take(t, p, kid))
	}
	a.stood = append(a.stood, k)
	return k
}

func (k *knot) size() int {
	size := 4 * len(k.kids)
	for i, key := range k.keys {
		size += 1 + len(key)
		if k.leaf {
			size += 1 + len(k.values[i])
		}
	}
	return size
}

// kidOf is the kid to which a key belongs.
func (k *knot) kidOf(key string) *knot {
	at := 0
	for _, other := range k.keys {
		if other <= key {
			at++
		}
	}
	return k.kids[at]
}

// set gives a leaf's key its value, or takes it away.
func (k *knot) set(key string, value *string) {
	held := map[string]string{}
	for i := range k.keys {
		held[k.keys[i]] = k.values[i]
	}
	delete(held, key)
	if value != nil {
		held[key] = *value
	}
	k.keys, k.values = slices.Sorted(maps.Keys(held)), nil
	for _, key := range k.keys {
		k.values = append(k.values, held[key])
	}
}

// cutAt are the parts of a node by chapter 10's words, and the key between.
func (k *knot) cutAt(at int) (*knot, string, *knot) {
	left := &knot{touched: true, leaf: k.leaf, keys: slices.Clone(k.keys[:at])}
	right := &knot{touched: true, leaf: k.leaf}
	if k.leaf {
		left.values = slices.Clone(k.values[:at])
		right.keys, right.values = slices.Clone(k.keys[at:]), slices.Clone(k.values[at:])
		a, b := k.keys[at-1], k.keys[at]
		n := 1
		for b[:n] <= a {
			n++
		}
		return left, b[:n], right
	}
	left.kids = slices.Clone(k.kids[:at+1])
	right.keys, right.kids = slices.Clone(k.keys[at+1:]), slices.Clone(k.kids[at+1:])
	return left, k.keys[at], right
}

// cut is a node parted where the greater part is least.
func (k *knot) cut() (*knot, string, *knot) {
	last := len(k.keys) - 1
	if !k.leaf {
		last--
	}
	best, size := 0, most
	for at := 1; at <= last; at++ {
		left, _, right := k.cutAt(at)
		if greater := max(left.size(), right.size()); greater < size {
			best, size = at, greater
		}
	}
	return k.cutAt(best)
}

// join is two nodes put together.
func join(a *knot, key string, b *knot) *knot {
	k := &knot{touched: true, leaf: a.leaf, values: slices.Concat(a.values, b.values), kids: slices.Concat(a.kids, b.kids)}
	if a.leaf {
		k.keys = slices.Concat(a.keys, b.keys)
	} else {
		k.keys = slices.Concat(a.keys, []string{key}, b.keys)
	}
	return k
}

// change makes one, with a value or without.
func (a *account) change(key string, value *string) {
	if a.root == nil {
		a.root = &knot{leaf: true}
	}
	var way []*knot
	for k := a.root; ; k = k.kidOf(key) {
		k.touched = true
		way = append(way, k)
		if k.leaf {
			break
		}
	}
	way[len(way)-1].set(key, value)
	for i := len(way) - 1; i > 0; i-- {
		a.settle(way[i], way[i-1])
	}
	a.settleRoot()
}

// kind names a node's kind.
func (k *knot) kind() string {
	if k.leaf {
		return "leaf"
	}
	return "inner"
}

// settle is T7's third step at one node that has a parent.
func (a *account) settle(k, parent *knot) {
	at := slices.Index(parent.kids, k)
	if k.size() > 480 {
		left, key, right := k.cut()
		a.turns[k.kind()+" parted"]++
		parent.keys = slices.Insert(parent.keys, at, key)
		parent.kids = slices.Replace(parent.kids, at, at+1, left, right)
		return
	}
	if k.size() >= 120 {
		return
	}
	with := "left"
	if at == 0 {
		at, with = 1, "right"
	}
	both := join(parent.kids[at-1], parent.keys[at-1], parent.kids[at])
	if both.size() <= 480 {
		a.turns[k.kind()+" joined "+with]++
		parent.keys = slices.Delete(parent.keys, at-1, at)
		parent.kids = slices.Replace(parent.kids, at-1, at+1, both)
		return
	}
	left, key, right := both.cut()
	a.turns[k.kind()+" joined "+with+" and parted"]++
	before := parent.size()
	parent.keys[at-1] = key
	parent.kids = slices.Replace(parent.kids, at-1, at+1, left, right)
	if parent.size() > 480 {
		a.turns["great by another key"]++
	}
	if before >= 120 && parent.size() < 120 {
		a.turns["poor by another key"]++
	}
}

// settleRoot is T7's third and fourth step at the root.
func (a *account) settleRoot() {
	if a.root.size() > 480 {
		a.turns["root parted: "+a.root.kind()]++
		left, key, right := a.root.cut()
		a.root = &knot{touched: true, keys: []string{key}, kids: []*knot{left, right}}
	}
	for !a.root.leaf && len(a.root.keys) == 0 {
		a.turns["root without keys"]++
		a.root = a.root.kids[0]
	}
	if a.root.leaf && len(a.root.keys) == 0 {
		a.turns["empty"]++
		a.root = nil
	}
}

// inTree are the nodes of a tree, from the left, each behind all those below it.
func inTree(k *knot) []*knot {
	if k == nil {
		return nil
	}
	var l []*knot
	for _, kid := range k.kids {
		l = append(l, inTree(kid)...)
	}
	return append(l, k)
}

// written is what a commit writes: pages without their births, the root, and what is gone.
type written struct {
	pages []api.Page
	root  int
	gone  []int
}

// toWrite are the nodes that are to be written, in the order of their pages.
func (a *account) toWrite() []*knot {
	return slices.DeleteFunc(inTree(a.root), func(k *knot) bool { return !k.touched })
}

// write is T7's end, with the least free pages.
func (a *account) write(free []int) written {
	var w written
	there := map[*knot]bool{}
	for _, k := range inTree(a.root) {
		there[k] = true
	}
	for _, k := range a.stood {
		if k.touched || !there[k] {
			w.gone = append(w.gone, k.page)
		}
	}
	slices.Sort(w.gone)
	for i, k := range a.toWrite() {
		k.page = free[i]
		n := api.Node{Leaf: k.leaf, Keys: k.keys, Values: k.values}
		for _, kid := range k.kids {
			n.Kids = append(n.Kids, kid.page)
		}
		w.pages = append(w.pages, pageOf(k.page, 0, n))
	}
	if a.root != nil {
		w.root = a.root.page
	}
	return w
}

// list is what a tree is by T9: a list of keys and values, those that stand and those that it has.
type list struct {
	stands, has map[string]string
}

func newList() *list {
	return &list{map[string]string{}, map[string]string{}}
}

// changes are the keys of the changes, rising.
func (l *list) changes() []string {
	var keys []string
	for key, value := range l.has {
		if stood, is := l.stands[key]; !is || stood != value {
			keys = append(keys, key)
		}
	}
	for key := range l.stands {
		if _, is := l.has[key]; !is {
			keys = append(keys, key)
		}
	}
	slices.Sort(keys)
	return keys
}

// made is the account of the changes over what stands on a pager.
func (l *list) made(t *testing.T, p *pager.Pager) *account {
	t.Helper()
	a := takenIn(t, p)
	for _, key := range l.changes() {
		if value, is := l.has[key]; is {
			a.change(key, &value)
		} else {
			a.change(key, nil)
		}
	}
	return a
}

func rising(l map[string]string, from, to string, most int) []api.Pair {
	var pairs []api.Pair
	for _, key := range slices.Sorted(maps.Keys(l)) {
		if key >= from && (to == "" || key < to) && len(pairs) < most {
			pairs = append(pairs, api.Pair{Key: key, Value: l[key]})
		}
	}
	return pairs
}

func falling(l map[string]string, from, to string, most int) []api.Pair {
	var pairs []api.Pair
	for _, key := range slices.Backward(slices.Sorted(maps.Keys(l))) {
		if (from == "" || key < from) && key >= to && len(pairs) < most {
			pairs = append(pairs, api.Pair{Key: key, Value: l[key]})
		}
	}
	return pairs
}

// wantSound looks at what stands on a pager: sizes, depths, bounds, and that each page is reached once or free, or held.
func wantSound(t *testing.T, p *pager.Pager) {
	t.Helper()
	seen := map[int]bool{}
	depths := map[int]bool{}
	var look func(number, depth int, low, high string)
	look = func(number, depth int, low, high string) {
		page, errno := p.Read(number)
		wantErrno(t, "Read", errno, api.OK)
		n, errno := node.Parse(page)
		wantErrno(t, "Parse", errno, api.OK)
		if seen[number] {
			t.Fatalf("the page %d is reached twice", number)
		}
		seen[number] = true
		if size := node.Size(n); size > 480 || size < 120 && depth > 0 {
			t.Fatalf("the node on the page %d has a size of %d", number, size)
		}
		for _, key := range n.Keys {
			if key < low || !n.Leaf && key == low || high != "" && key >= high {
				t.Fatalf("the key %q on the page %d is not between %q and %q", key, number, low, high)
			}
		}
		if n.Leaf {
			depths[depth] = true
		}
		bounds := slices.Concat([]string{low}, n.Keys, []string{high})
		for i, kid := range n.Kids {
			look(kid, depth+1, bounds[i], bounds[i+1])
		}
	}
	if p.Root() != 0 {
		look(p.Root(), 0, "", "")
	}
	if len(depths) > 1 {
		t.Fatalf("leaves are unlike deep: %v", depths)
	}
	if !slices.Equal(p.Reached(), slices.Sorted(maps.Keys(seen))) || p.Free() != p.Size()-2-len(seen)-p.Held() {
		t.Fatalf("reached are %v, free %d, held %d; the tree has %v", p.Reached(), p.Free(), p.Held(), slices.Sorted(maps.Keys(seen)))
	}
}
