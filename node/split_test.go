package node_test

import (
	"testing"

	"latchkey/api"
	"latchkey/node"
)

// cutAt is a node cut at a place, by the chapter's words.
func cutAt(n api.Node, i int) (api.Node, string, api.Node) {
	if n.Leaf {
		a := api.Node{Leaf: true, Keys: n.Keys[:i], Values: n.Values[:i]}
		b := api.Node{Leaf: true, Keys: n.Keys[i:], Values: n.Values[i:]}
		return a, betweenOf(n.Keys[i-1], n.Keys[i]), b
	}
	return api.Node{Keys: n.Keys[:i], Kids: n.Kids[:i+1]}, n.Keys[i], api.Node{Keys: n.Keys[i+1:], Kids: n.Kids[i+1:]}
}

func wantSplitAt(t *testing.T, n api.Node, i int) {
	t.Helper()
	a, key, b := cutAt(n, i)
	wantSplit(t, n, a, key, b)
}

// cells is a leaf whose cells have these sizes, with keys of one byte.
func cells(sizes ...int) api.Node {
	n := api.Node{Leaf: true}
	for i, size := range sizes {
		n.Keys = append(n.Keys, string([]byte{'a' + byte(i)}))
		n.Values = append(n.Values, val(size-3))
	}
	return n
}

// lengths is an inner node whose keys have so many bytes.
func lengths(sizes ...int) api.Node {
	n := api.Node{Kids: []int{500}}
	for i, size := range sizes {
		n.Keys = append(n.Keys, long(string([]byte{'A' + byte(i)}), size))
		n.Kids = append(n.Kids, 499-i)
	}
	return n
}

// N6: leaves, of few great cells and of many small ones.
func TestSplitLeaf(t *testing.T) {
	wantSplitAt(t, cells(100, 100, 100, 100, 100, 100), 3)
	wantSplitAt(t, cells(203, 203, 203), 1)               // 203 and 406, 406 and 203: the first
	wantSplitAt(t, cells(203, 203, 202), 1)               // 405 or 406
	wantSplitAt(t, cells(202, 203, 203), 2)               // 406 or 405
	wantSplitAt(t, cells(200, 81, 200), 1)                // 281 either way
	wantSplitAt(t, cells(120, 120, 121, 120), 2)          // 361, 241 or 361
	wantSplitAt(t, cells(200, 100, 100, 200), 2)          // 400, 300 or 400
	wantSplitAt(t, cells(100, 100, 50, 100, 100, 100), 3) // 350, 300 or 350
	wantSplitAt(t, cells(200, 200, 30, 30, 30, 30), 1)    // 320 or 400
	wantSplitAt(t, cells(30, 30, 30, 30, 200, 200), 5)    // 400 or 320
	wantSplitAt(t, cells(203, 203, 80), 1)                // 283 or 406
	wantSplitAt(t, cells(80, 203, 203), 2)                // 406 or 283
	small := api.Node{Leaf: true}
	for i := range 161 {
		small.Keys, small.Values = append(small.Keys, string([]byte{byte(i)})), append(small.Values, "")
	}
	wantSplitAt(t, small, 80) // 240 and 243, ahead of 243 and 240
	for i := 161; i < 239; i++ {
		small.Keys, small.Values = append(small.Keys, string([]byte{byte(i)})), append(small.Values, "")
	}
	wantSplitAt(t, small, 119) // 357 and 360 of 717
	one := leaf("a", "", "ab", val(200), long("c", 36), val(200), long("d", 36), "")
	wantSplitAt(t, one, 2) // 3 and 204 and 238 and 38
}

// N6: the key between is the shortest that parts both leaves.
func TestSplitKey(t *testing.T) {
	v := val(150)
	wantSplit(t, leaf("apple", v, "pea", v, "peach", v, "pear", v),
		leaf("apple", v, "pea", v), "peac", leaf("peach", v, "pear", v))
	wantSplit(t, leaf("a", v, "apple", v, "pear", v, "z", v),
		leaf("a", v, "apple", v), "p", leaf("pear", v, "z", v))
	wantSplit(t, leaf("a", v, "b", v, "b\x00\x00", v, "c", v),
		leaf("a", v, "b", v), "b\x00", leaf("b\x00\x00", v, "c", v))
	wantSplit(t, leaf("a", v, long("k", 35), v, long("k", 36), v, "z", v),
		leaf("a", v, long("k", 35), v), long("k", 36), leaf(long("k", 36), v, "z", v))
}

// N6: inner nodes, of which the key at the place goes up.
func TestSplitInner(t *testing.T) {
	many := api.Node{Kids: []int{900}}
	for i := range 80 {
		many.Keys, many.Kids = append(many.Keys, string([]byte{byte(i)})), append(many.Kids, 899-i)
	}
	wantSize(t, many, 484)
	wantSplitAt(t, many, 39) // 39 keys and 40
	for i := 80; i < 119; i++ {
		many.Keys, many.Kids = append(many.Keys, string([]byte{byte(i)})), append(many.Kids, 899-i)
	}
	wantSize(t, many, 718)
	wantSplitAt(t, many, 59) // 59 and 59
	wantSplitAt(t, lengths(36, 36, 36, 36, 36, 36, 36, 36, 36, 36, 36, 36), 5)
	wantSplitAt(t, lengths(36, 36, 36, 36, 36, 36, 36, 36, 36, 36, 36, 36, 36), 6)
	wantSplitAt(t, lengths(36, 36, 36, 36, 36, 36, 36, 36, 36, 36, 36, 1, 36, 1, 1, 1), 6)
	wantSplitAt(t, lengths(1, 1, 1, 36, 1, 36, 36, 36, 36, 36, 36, 36, 36, 36, 36, 36), 9)
	wantSplitAt(t, lengths(1, 1, 1, 1, 1, 1, 36, 36, 36, 36, 36, 36, 36, 36, 36, 36, 36), 11)
	wantSplitAt(t, lengths(36, 36, 36, 36, 36, 36, 36, 36, 36, 36, 36, 1, 1, 1, 1, 1, 1), 5)
	wantSplitAt(t, lengths(20, 20, 20, 20, 20, 20, 20, 20, 20, 20, 20, 20, 20, 20, 20, 20, 20, 20, 20, 20), 9) // the same at 10
}

// N6: i is the first place at which the greater one of both sizes is least: at all sizes.
func TestSplitSizes(t *testing.T) {
	for size := 400; size <= 800; size++ {
		for _, n := range []api.Node{sized(size), sizedInner(size)} {
			if size < 481 || size > 718 {
				wantNoSplit(t, n, api.ErrNodePart)
				continue
			}
			at, _ := placeOf(n)
			wantSplitAt(t, n, at)
		}
	}
}

// N6: ErrNodePart at few keys, at nodes that are too small, and too great.
func TestNoSplit(t *testing.T) {
	for _, n := range []api.Node{
		leaf("a", ""), leaf("a", val(200)), leaf(long("a", 36), val(200), long("b", 36), val(200)), sized(480), sized(719), sized(2000),
		inner("a", 2, 3), inner("a b", 2, 3, 4), inner("a b c", 2, 3, 4, 5), inner(long("a", 36)+" "+long("b", 36)+" "+long("c", 36), 2, 3, 4, 5), sizedInner(480), sizedInner(719), sizedInner(2000),
	} {
		wantNoSplit(t, n, api.ErrNodePart)
	}
}

// N6: each error ahead of the others.
func TestNoSplitErrors(t *testing.T) {
	for _, n := range noForms() {
		wantNoSplit(t, n, api.ErrNodeForm)
		wantNoSplit(t, with(n, spoilKeys), api.ErrNodeForm)
		wantNoSplit(t, with(n, fatten), api.ErrNodeForm)
	}
	for _, size := range []int{300, 480, 481, 600, 718, 719, 1000} {
		for _, n := range []api.Node{sized(size), sizedInner(size)} {
			wantNoSplit(t, with(n, func(n *api.Node) { n.Keys = n.Keys[1:] }), api.ErrNodeForm)
			wantNoSplit(t, with(n, func(n *api.Node) { n.Kids = append(n.Kids, 7) }), api.ErrNodeForm)
			wantNoSplit(t, with(n, func(n *api.Node) { n.Leaf = !n.Leaf }), api.ErrNodeForm)
			wantNoSplit(t, with(n, func(n *api.Node) { n.Leaf = !n.Leaf; n.Keys[1] = n.Keys[0] }), api.ErrNodeForm)
			wantNoSplit(t, with(n, spoilKeys), api.ErrNodeKey)
			wantNoSplit(t, with(n, fatten), api.ErrNodeKey)
			wantNoSplit(t, with(n, func(n *api.Node) { n.Keys[1] = n.Keys[0] }), api.ErrNodeKey)
			wantNoSplit(t, with(n, dropKeys), api.ErrNodeKey)
		}
	}
	big := with(sized(600), func(n *api.Node) { n.Values[0] = val(201) })
	wantNoSplit(t, big, api.ErrNodeForm)
	for _, keys := range noKeys() {
		wantNoSplit(t, keyed(keys, ""), api.ErrNodeKey)
		wantNoSplit(t, keyed(keys, val(200)), api.ErrNodeKey)
		wantNoSplit(t, kidded(keys), api.ErrNodeKey)
	}
}

// N8: also where the greatest cell stands in the middle both parts have 120 at least.
func TestLeastParts(t *testing.T) {
	least := 481
	for a := 3; a <= 203; a++ {
		for c := max(3, 481-238-a); c <= 203; c++ {
			n := leaf("a", val(a-3), long("b", 36), val(200), "c", val(c-3))
			left, _, right, errno := node.Split(n)
			if errno != api.OK {
				t.Fatalf("Split of %d, 238 and %d: %d", a, c, errno)
			}
			least = min(least, node.Size(left), node.Size(right))
		}
	}
	if least != 122 {
		t.Errorf("the least part has %d", least)
	}
}
