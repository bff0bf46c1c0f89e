package node_test

import (
	"math"
	"slices"
	"strings"
	"testing"

	"latchkey/api"
	"latchkey/node"
)

const (
	least = math.MinInt
	most  = math.MaxInt
)

// leaf is one of keys and values, by turns.
func leaf(pairs ...string) api.Node {
	n := api.Node{Leaf: true}
	for i := 0; i < len(pairs); i += 2 {
		n.Keys = append(n.Keys, pairs[i])
		n.Values = append(n.Values, pairs[i+1])
	}
	return n
}

// inner is an inner node; its keys stand with a space between each two.
func inner(keys string, kids ...int) api.Node {
	return api.Node{Keys: strings.Fields(keys), Kids: kids}
}

// numbers are so many, rising from one on.
func numbers(from, n int) []int {
	var l []int
	for i := range n {
		l = append(l, from+i)
	}
	return l
}

// long is a text of so many bytes that begins with a letter.
func long(letter string, n int) string { return letter + strings.Repeat("k", n-1) }

// val is a value of so many bytes.
func val(n int) string { return strings.Repeat("v", n) }

// sized is a right leaf of such a size, or one of the same form that is too great: its values have 100 bytes, but for the last ones.
func sized(size int) api.Node {
	n := api.Node{Leaf: true}
	for at := 0; size > 0; at++ {
		cell := 103
		if size < 103+3 {
			cell = size
		}
		n.Keys = append(n.Keys, string([]byte{'a' + byte(at)}))
		n.Values = append(n.Values, val(cell-3))
		size -= cell
	}
	return n
}

// sizedInner is such an inner node: its keys have 21 bytes, but for the last one.
func sizedInner(size int) api.Node {
	n := api.Node{Kids: []int{1000}}
	size -= 4
	for at := 0; size > 0; at++ {
		cell := 26
		if size < 26+6 {
			cell = size
		}
		n.Keys = append(n.Keys, long(string([]byte{'A' + byte(at)}), cell-5))
		n.Kids = append(n.Kids, 1001+at)
		size -= cell
	}
	return n
}

// with is a node of which something was changed; the lists of the other one stay.
func with(n api.Node, change func(n *api.Node)) api.Node {
	c := clone(n)
	change(&c)
	return c
}

func clone(n api.Node) api.Node {
	return api.Node{Leaf: n.Leaf, Keys: slices.Clone(n.Keys), Values: slices.Clone(n.Values), Kids: slices.Clone(n.Kids)}
}

// same: have two nodes the same in all their fields?
func same(a, b api.Node) bool {
	return a.Leaf == b.Leaf && slices.Equal(a.Keys, b.Keys) && slices.Equal(a.Values, b.Values) && slices.Equal(a.Kids, b.Kids)
}

// samePage: have two pages the same in all their fields?
func samePage(a, b api.Page) bool {
	return a.Kind == b.Kind && a.Number == b.Number && a.Birth == b.Birth && slices.Equal(a.Links, b.Links) && a.Body == b.Body
}

func wantSize(t *testing.T, n api.Node, want int) {
	t.Helper()
	if got := node.Size(n); got != want {
		t.Errorf("Size(%v): %d, want %d", n, got, want)
	}
}

// wantPage: a right node has this page, and is read of it.
func wantPage(t *testing.T, n api.Node, want api.Page) {
	t.Helper()
	if got, errno := node.Page(n); errno != api.OK || !samePage(got, want) {
		t.Errorf("Page(%v): %v, %d; want %v", n, got, errno, want)
	}
	wantParse(t, want, n)
}

func wantNoPage(t *testing.T, n api.Node, want api.Errno) {
	t.Helper()
	if got, errno := node.Page(n); errno != want || !samePage(got, api.Page{}) {
		t.Errorf("Page(%v): %v, %d; want %d", n, got, errno, want)
	}
}

func wantParse(t *testing.T, p api.Page, want api.Node) {
	t.Helper()
	if got, errno := node.Parse(p); errno != api.OK || !same(got, want) {
		t.Errorf("Parse(%v): %v, %d; want %v", p, got, errno, want)
	}
}

func wantNoParse(t *testing.T, p api.Page) {
	t.Helper()
	if got, errno := node.Parse(p); errno != api.ErrNodeForm || !same(got, api.Node{}) {
		t.Errorf("Parse(%v): %v, %d; want %d", p, got, errno, api.ErrNodeForm)
	}
}

func wantFind(t *testing.T, n api.Node, key string, at int, is bool) {
	t.Helper()
	if gotAt, got := node.Find(n, key); gotAt != at || got != is {
		t.Errorf("Find(%v, %v): %d, %v; want %d, %v", n, key, gotAt, got, at, is)
	}
}

func wantBetween(t *testing.T, a, b, want string) {
	t.Helper()
	if got := node.Between(a, b); got != want {
		t.Errorf("Between(%q, %q): %q, want %q", a, b, got, want)
	}
}

func wantSplit(t *testing.T, n, a api.Node, key string, b api.Node) {
	t.Helper()
	gotA, got, gotB, errno := node.Split(n)
	if errno != api.OK || !same(gotA, a) || got != key || !same(gotB, b) {
		t.Errorf("Split(%v): %v, %v, %v, %d; want %v, %v, %v", n, gotA, got, gotB, errno, a, key, b)
	}
}

func wantNoSplit(t *testing.T, n api.Node, want api.Errno) {
	t.Helper()
	a, key, b, errno := node.Split(n)
	if errno != want || !same(a, api.Node{}) || key != "" || !same(b, api.Node{}) {
		t.Errorf("Split(%v): %v, %v, %v, %d; want %d", n, a, key, b, errno, want)
	}
}

func wantJoin(t *testing.T, a api.Node, key string, b, want api.Node) {
	t.Helper()
	if got, errno := node.Join(a, key, b); errno != api.OK || !same(got, want) {
		t.Errorf("Join(%v, %v, %v): %v, %d; want %v", a, key, b, got, errno, want)
	}
}

func wantNoJoin(t *testing.T, a api.Node, key string, b api.Node, want api.Errno) {
	t.Helper()
	if got, errno := node.Join(a, key, b); errno != want || !same(got, api.Node{}) {
		t.Errorf("Join(%v, %v, %v): %v, %d; want %d", a, key, b, got, errno, want)
	}
}
