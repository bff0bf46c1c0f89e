package node_test

import (
	"testing"

	"latchkey/api"
)

// N7: leaves.
func TestJoinLeaves(t *testing.T) {
	a, b, none := leaf("a", "1", "b", "2"), leaf("d", "3", "e", ""), api.Node{Leaf: true}
	all := leaf("a", "1", "b", "2", "d", "3", "e", "")
	for _, key := range []string{"b\x00", "c", "cc", "d"} {
		wantJoin(t, a, key, b, all)
	}
	for _, key := range []string{"a", "A", "b", "d\x00", "e", "z", "\xff"} {
		wantNoJoin(t, a, key, b, api.ErrNodePart)
	}
	for _, key := range []string{"A", "c", "d", long("c", 36)} {
		wantJoin(t, none, key, b, b)
	}
	for _, key := range []string{"d\x00", "e", "f"} {
		wantNoJoin(t, none, key, b, api.ErrNodePart)
	}
	for _, key := range []string{"b\x00", "c", "\xff", long("c", 36)} {
		wantJoin(t, a, key, none, a)
	}
	for _, key := range []string{"\x00", "a", "b"} {
		wantNoJoin(t, a, key, none, api.ErrNodePart)
	}
	wantJoin(t, none, "q", none, none)
	wantJoin(t, leaf("a", "1"), "b", leaf("b", "2"), leaf("a", "1", "b", "2"))
	wantNoJoin(t, b, "c", a, api.ErrNodePart)
	wantNoJoin(t, a, "c", a, api.ErrNodePart)
}

// N7: inner nodes: the key comes down between theirs.
func TestJoinInner(t *testing.T) {
	a, b := inner("b d", 2, 3, 4), inner("h k", 5, 6, 7)
	for _, key := range []string{"d\x00", "e", "g", "gggg"} {
		wantJoin(t, a, key, b, inner("b d "+key+" h k", 2, 3, 4, 5, 6, 7))
	}
	for _, key := range []string{"a", "b", "c", "d", "h", "h\x00", "k", "z"} {
		wantNoJoin(t, a, key, b, api.ErrNodePart)
	}
	wantJoin(t, inner("a", 9, 8), "b", inner("c", 4, 3), inner("a b c", 9, 8, 4, 3))
	wantNoJoin(t, b, "e", a, api.ErrNodePart)
	for i := range 3 {
		for j := range 3 {
			twice := with(b, func(n *api.Node) { n.Kids[i] = a.Kids[j] })
			wantNoJoin(t, a, "e", twice, api.ErrNodePart)
			wantNoJoin(t, with(a, func(n *api.Node) { n.Kids[i] = b.Kids[j] }), "e", b, api.ErrNodePart)
		}
	}
}

// N7: a leaf and an inner node.
func TestJoinUnlike(t *testing.T) {
	a, x, none := leaf("a", "1"), inner("m", 5, 9), api.Node{Leaf: true}
	for _, key := range []string{"b", "m", "z"} {
		wantNoJoin(t, a, key, x, api.ErrNodePart)
		wantNoJoin(t, x, key, a, api.ErrNodePart)
		wantNoJoin(t, none, key, x, api.ErrNodePart)
		wantNoJoin(t, x, key, none, api.ErrNodePart)
	}
	wantNoJoin(t, x, "z", leaf("z", ""), api.ErrNodePart)
	wantNoJoin(t, sized(480), "z", with(sizedInner(480), func(n *api.Node) {}), api.ErrNodePart)
}

// N7: the form, of one and of the other, ahead of all else; a leaf may have no keys here.
func TestJoinForm(t *testing.T) {
	good := []api.Node{leaf("p", "1"), inner("p", 20, 30), {Leaf: true}}
	for _, n := range noForms() {
		if n.Leaf && len(n.Keys)+len(n.Values)+len(n.Kids) == 0 {
			continue
		}
		for _, g := range good {
			for _, key := range []string{"q", "a", "z", "", long("k", 37)} {
				wantNoJoin(t, n, key, g, api.ErrNodeForm)
				wantNoJoin(t, g, key, n, api.ErrNodeForm)
				wantNoJoin(t, with(n, spoilKeys), key, g, api.ErrNodeForm)
				wantNoJoin(t, g, key, with(n, fatten), api.ErrNodeForm)
				wantNoJoin(t, n, key, n, api.ErrNodeForm)
			}
		}
		wantNoJoin(t, keyed(noKeys()[0], ""), "q", n, api.ErrNodeForm)
		wantNoJoin(t, n, "q", kidded(noKeys()[0]), api.ErrNodeForm)
	}
}

// N7: a size above 480 is ErrNodeForm, too, ahead of all else.
func TestJoinGreat(t *testing.T) {
	none, x, y := api.Node{Leaf: true}, inner("z", 7, 8), inner("\x01", 7, 8)
	for _, size := range []int{481, 600, 718, 719, 5000} {
		for _, key := range []string{"{", "", long("k", 37), "\x02"} {
			wantNoJoin(t, sized(size), key, none, api.ErrNodeForm)
			wantNoJoin(t, none, key, sized(size), api.ErrNodeForm)
			wantNoJoin(t, sizedInner(size), key, x, api.ErrNodeForm)
			wantNoJoin(t, y, key, sizedInner(size), api.ErrNodeForm)
			wantNoJoin(t, y, key, sized(size), api.ErrNodeForm)
			wantNoJoin(t, with(sized(size), dropKeys), key, none, api.ErrNodeForm)
			wantNoJoin(t, keyed(noKeys()[0], ""), key, sized(size), api.ErrNodeForm)
		}
	}
	wantJoin(t, sized(480), "{", none, sized(480))
	wantJoin(t, none, "a", sized(480), sized(480))
}

// N7: keys that may not be, of one, of the other, and the key itself: ahead of what does not go together.
func TestJoinKeys(t *testing.T) {
	x, y := inner("p", 20, 30), inner("r", 40, 50)
	for _, keys := range noKeys() {
		bad, badIn := keyed(keys, ""), kidded(keys)
		if len(keys[0]) > 100 {
			continue
		}
		for _, key := range []string{"q", "a", "zz", "", long("k", 37)} {
			wantNoJoin(t, bad, key, leaf("x", ""), api.ErrNodeKey)
			wantNoJoin(t, leaf("x", ""), key, bad, api.ErrNodeKey)
			wantNoJoin(t, bad, key, api.Node{Leaf: true}, api.ErrNodeKey)
			wantNoJoin(t, bad, key, bad, api.ErrNodeKey)
			wantNoJoin(t, badIn, key, x, api.ErrNodeKey)
			wantNoJoin(t, x, key, badIn, api.ErrNodeKey)
			wantNoJoin(t, bad, key, x, api.ErrNodeKey)
			wantNoJoin(t, x, key, bad, api.ErrNodeKey)
			wantNoJoin(t, badIn, key, badIn, api.ErrNodeKey)
		}
	}
	for _, key := range []string{"", long("q", 37), long("q", 256), long("a", 37)} {
		wantNoJoin(t, x, key, y, api.ErrNodeKey)
		wantNoJoin(t, y, key, x, api.ErrNodeKey)
		wantNoJoin(t, x, key, x, api.ErrNodeKey)
		wantNoJoin(t, x, key, leaf("a", ""), api.ErrNodeKey)
		wantNoJoin(t, leaf("a", ""), key, leaf("r", ""), api.ErrNodeKey)
		wantNoJoin(t, api.Node{Leaf: true}, key, api.Node{Leaf: true}, api.ErrNodeKey)
		wantNoJoin(t, sized(480), key, sized(480), api.ErrNodeKey)
	}
	wantJoin(t, x, long("q", 36), y, inner("p "+long("q", 36)+" r", 20, 30, 40, 50))
	wantJoin(t, x, "q", y, inner("p q r", 20, 30, 40, 50))
}

// shifted is a node whose keys begin with another byte, and whose kids are others.
func shifted(n api.Node) api.Node {
	return with(n, func(n *api.Node) {
		for i, key := range n.Keys {
			n.Keys[i] = string([]byte{key[0] + 128}) + key[1:]
		}
		for i := range n.Kids {
			n.Kids[i] += 10000
		}
	})
}

// N7: sizes of 718 and 719 of what comes of them.
func TestJoinFull(t *testing.T) {
	for left := 238; left <= 480; left += 11 {
		for right := 230; right <= 480; right++ {
			a, b := sized(left), shifted(sized(right))
			if left+right > 718 {
				wantNoJoin(t, a, "~", b, api.ErrNodeFull)
			} else {
				wantJoin(t, a, "~", b, api.Node{Leaf: true, Keys: append(a.Keys, b.Keys...), Values: append(a.Values, b.Values...)})
			}
			a, b = sizedInner(left), shifted(sizedInner(right))
			key := long("~", 1+right%36)
			if left+1+len(key)+right > 718 {
				wantNoJoin(t, a, key, b, api.ErrNodeFull)
			} else {
				wantJoin(t, a, key, b, api.Node{Keys: append(append(a.Keys, key), b.Keys...), Kids: append(a.Kids, b.Kids...)})
			}
		}
	}
	wantNoJoin(t, sized(480), "~", shifted(sized(239)), api.ErrNodeFull)
	wantNoJoin(t, sizedInner(480), "~", shifted(sizedInner(237)), api.ErrNodeFull)
	wantNoJoin(t, sized(480), "\x01", shifted(sized(480)), api.ErrNodePart)
	wantNoJoin(t, sized(480), "\xff", shifted(sized(480)), api.ErrNodePart)
	wantNoJoin(t, sized(480), "~", shifted(sizedInner(480)), api.ErrNodePart)
	wantNoJoin(t, sizedInner(480), "~", with(shifted(sizedInner(480)), func(n *api.Node) { n.Kids[3] = 1002 }), api.ErrNodePart)
}
