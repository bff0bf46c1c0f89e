package node_test

import (
	"slices"
	"strings"
	"testing"

	"latchkey/api"
	"latchkey/node"
)

// leafPage is a leaf's page, inPage an inner node's.
func leafPage(body string) api.Page { return api.Page{Kind: 1, Body: body} }

func inPage(body string, links ...int) api.Page { return api.Page{Kind: 2, Links: links, Body: body} }

// short is a text with its length by one byte ahead.
func short(s string) string { return string([]byte{byte(len(s))}) + s }

// N2 and N3: there and back, at the edges.
func TestPage(t *testing.T) {
	wantPage(t, leaf("a", ""), leafPage("\x01\x01a\x00"))
	wantPage(t, leaf("\x00", "\x00"), leafPage("\x01\x01\x00\x01\x00"))
	wantPage(t, leaf(long("a", 36), val(200)), leafPage("\x01"+short(long("a", 36))+short(val(200))))
	wantPage(t, leaf("a", "", "b", ""), leafPage("\x02\x01a\x00\x01b\x00"))
	wantPage(t, leaf("a", "1", "a\x00", "2", "a\xff", "3", "b", "4"), leafPage("\x04\x01a\x011\x02a\x00\x012\x02a\xff\x013\x01b\x014"))
	wantPage(t, leaf("\x7f", "x", "\x80", "y"), leafPage("\x02\x01\x7f\x01x\x01\x80\x01y"))
	wantPage(t, inner("a", 2, 3), inPage("\x01\x01a", 2, 3))
	wantPage(t, inner("a", 1<<32-1, 2), inPage("\x01\x01a", 1<<32-1, 2))
	wantPage(t, inner("a b", 9, 7, 8), inPage("\x02\x01a\x01b", 9, 7, 8))
	wantPage(t, inner(long("a", 36), 5, 4), inPage("\x01"+short(long("a", 36)), 5, 4))
	for _, bytes := range []string{"\x00", "\x01", " ", "\n", "é", "\xff\xfe", "\x00\x00\x00"} {
		wantPage(t, leaf(bytes, bytes), leafPage("\x01"+short(bytes)+short(bytes)))
	}
}

// N2 and N3: as many keys as there may be.
func TestManyKeys(t *testing.T) {
	many := api.Node{Leaf: true}
	body := string([]byte{160})
	for i := range 160 {
		key := string([]byte{byte(i)})
		many.Keys = append(many.Keys, key)
		many.Values = append(many.Values, "")
		body += short(key) + "\x00"
	}
	wantSize(t, many, 480)
	wantPage(t, many, leafPage(body))
	kids := api.Node{Kids: numbers(77, 80)}
	body = string([]byte{79})
	for i := range 79 {
		key := string([]byte{byte(i)})
		kids.Keys = append(kids.Keys, key)
		body += short(key)
	}
	wantSize(t, kids, 478)
	wantPage(t, kids, inPage(body, kids.Kids...))
	kids.Keys = append(kids.Keys, "\xff")
	kids.Kids = append(kids.Kids, 7)
	wantNoPage(t, kids, api.ErrNodeFull)
}

// N2 and N3: sizes of 480 and 481.
func TestRoom(t *testing.T) {
	for size := 470; size <= 480; size++ {
		for _, n := range []api.Node{sized(size), sizedInner(size)} {
			p, errno := node.Page(n)
			if errno != api.OK {
				t.Fatalf("a node of %d: %d", size, errno)
			}
			wantPage(t, n, pageOf(n))
			if got := len(p.Body) + 4*len(p.Links); got > 481 {
				t.Errorf("a page of %d bytes", got)
			}
		}
	}
	for size := 481; size <= 500; size++ {
		for _, n := range []api.Node{sized(size), sizedInner(size)} {
			wantNoPage(t, n, api.ErrNodeFull)
			wantNoParse(t, pageOf(n))
		}
	}
	wantNoPage(t, leaf("a", val(200), "b", val(200), "c", val(72)), api.ErrNodeFull)
	wantPage(t, leaf("a", val(200), "b", val(200), "c", val(71)), leafPage("\x03\x01a"+short(val(200))+"\x01b"+short(val(200))+"\x01c"+short(val(71))))
}

// N2: what has not its form, whatever else is wrong with it.
func TestNoForm(t *testing.T) {
	for _, n := range noForms() {
		wantNoPage(t, n, api.ErrNodeForm)
		wantNoPage(t, with(n, spoilKeys), api.ErrNodeForm)
		wantNoPage(t, with(n, fatten), api.ErrNodeForm)
	}
}

// spoilKeys lets keys not be, if there are any.
func spoilKeys(n *api.Node) {
	if len(n.Keys) > 0 {
		n.Keys[len(n.Keys)-1] = ""
	}
}

// dropKeys lets the first two keys fall; the size stays.
func dropKeys(n *api.Node) {
	n.Keys[0], n.Keys[1] = n.Keys[1], n.Keys[0]
}

// fatten makes the keys too long, and a node too great, if it has any.
func fatten(n *api.Node) {
	for i, key := range n.Keys {
		n.Keys[i] = key + strings.Repeat("f", 500)
	}
}

// noForms are nodes that have not their form; the keys of each may be, and its size is below 480.
func noForms() []api.Node {
	good, in := leaf("a", "1", "b", "2"), inner("a b", 2, 3, 4)
	kids := func(l ...int) api.Node { return with(in, func(n *api.Node) { n.Kids = l }) }
	return []api.Node{
		{},
		{Leaf: true},
		{Leaf: true, Kids: []int{2}},
		{Leaf: true, Values: []string{""}},
		{Kids: []int{2}},
		{Kids: []int{2, 3}},
		{Keys: []string{"a"}},
		{Leaf: true, Keys: []string{"a"}},
		with(good, func(n *api.Node) { n.Values = n.Values[:1] }),
		with(good, func(n *api.Node) { n.Values = append(n.Values, "") }),
		with(good, func(n *api.Node) { n.Keys = n.Keys[:1] }),
		with(good, func(n *api.Node) { n.Keys = append(n.Keys, "c") }),
		with(good, func(n *api.Node) { n.Kids = []int{2} }),
		with(good, func(n *api.Node) { n.Kids = []int{2, 3, 4} }),
		with(good, func(n *api.Node) { n.Values[0] = val(201) }),
		with(good, func(n *api.Node) { n.Values[1] = val(201) }),
		with(good, func(n *api.Node) { n.Values[1] = val(256) }),
		with(good, func(n *api.Node) { n.Leaf = false }),
		with(in, func(n *api.Node) { n.Leaf = true }),
		with(in, func(n *api.Node) { n.Values = []string{""} }),
		with(in, func(n *api.Node) { n.Values = []string{"1", "2"} }),
		with(in, func(n *api.Node) { n.Leaf, n.Values = true, []string{"1", "2"} }),
		kids(),
		kids(2),
		kids(2, 3),
		kids(2, 3, 4, 5),
		kids(1, 3, 4),
		kids(2, 1, 4),
		kids(2, 3, 1),
		kids(2, 3, 0),
		kids(-2, 3, 4),
		kids(2, 3, least),
		kids(2, most, 4),
		kids(2, 3, 1<<32),
		kids(1<<32, 3, 4),
		kids(2, 1<<32+3, 4),
		kids(2, 2, 4),
		kids(4, 2, 4),
		kids(2, 4, 4),
		kids(7, 7, 7),
		kids(1<<32-1, 5, 1<<32-1),
	}
}

// N2: keys that may not be, also in a node that is too great.
func TestNoKeys(t *testing.T) {
	for _, keys := range noKeys() {
		wantNoPage(t, keyed(keys, "v"), api.ErrNodeKey)
		wantNoPage(t, keyed(keys, val(200)), api.ErrNodeKey)
		wantNoPage(t, kidded(keys), api.ErrNodeKey)
	}
	wantNoPage(t, kidded(append(noKeys()[0], slices.Repeat([]string{long("k", 36)}, 30)...)), api.ErrNodeKey)
}

// noKeys are keys that may not be those of a node: one of no bytes, one of 37, some that do not rise.
func noKeys() [][]string {
	return [][]string{
		{"", "a", "b"}, {"", "a"}, {""}, {"a", ""}, {"a", "", "b"},
		{long("a", 37)}, {"a", long("a", 37), "b"}, {"a", "b", long("c", 37)}, {long("a", 256)}, {long("a", 257)},
		{"a", "a"}, {"b", "a"}, {"a", "b", "b"}, {"a", "c", "b"}, {"b", "a", "c"}, {"ab", "a"}, {"a", "B"}, {"\x80", "\x7f"},
		{"a", "b", "c", "c", "d", "e"}, {"a", "b", "c", "d", "e", "a"}, {"a\x00", "a"}, {"é", "z"},
	}
}

// keyed is a leaf of such keys, each with the same value; kidded an inner node of them.
func keyed(keys []string, value string) api.Node {
	return api.Node{Leaf: true, Keys: slices.Clone(keys), Values: slices.Repeat([]string{value}, len(keys))}
}

func kidded(keys []string) api.Node {
	return api.Node{Keys: slices.Clone(keys), Kids: numbers(2, len(keys)+1)}
}

// N3: Number and Birth may be whatever they are.
func TestAnyNumber(t *testing.T) {
	for _, number := range []int{least, -1, 0, 1, 2, 7, 4096, most} {
		for _, birth := range []int{least, -1, 0, 1, 9, most} {
			p := leafPage("\x01\x01a\x00")
			p.Number, p.Birth = number, birth
			wantParse(t, p, leaf("a", ""))
			q := inPage("\x01\x01a", 8, 7)
			q.Number, q.Birth = number, birth
			wantParse(t, q, inner("a", 8, 7))
		}
	}
}

// N3: pages of no right node.
func TestNoParse(t *testing.T) {
	for _, p := range []api.Page{
		{},
		leafPage(""), leafPage("\x00"), leafPage("\x00\x01a\x00"), leafPage("\x00\x00"),
		leafPage("\x01"), leafPage("\x01\x01"), leafPage("\x01\x01a"), leafPage("\x01\x01a\x01"),
		leafPage("\x01\x01a\x00x"), leafPage("\x01\x01a\x00\x00"), leafPage("\x01\x01a\x00\x01b\x00"), leafPage("\x01\x01a\x011\x01b\x012"),
		leafPage("\x02\x01a\x00"), leafPage("\x03\x01a\x00\x01b\x00"), leafPage("\xff\x01a\x00"),
		leafPage("\x01\x02a\x00"), leafPage("\x01\x03a\x00"), leafPage("\x01\xffa\x00"), leafPage("\x01\x01a\x02x"), leafPage("\x01\x01a\xffx"),
		leafPage("\x01\x00\x00"), leafPage("\x02\x00\x00\x01a\x00"), leafPage("\x01\x00\x011"),
		leafPage("\x01" + short(long("a", 37)) + "\x00"), leafPage("\x01" + short(long("a", 255)) + "\x00"),
		leafPage("\x01\x01a" + short(val(201))), leafPage("\x01\x01a" + short(val(255))),
		leafPage("\x02\x01b\x00\x01a\x00"), leafPage("\x02\x01a\x00\x01a\x00"), leafPage("\x02\x02ab\x00\x01a\x00"), leafPage("\x02\x01\x80\x00\x01\x7f\x00"),
		leafPage("\x01\x01a"), leafPage("\x02\x01a\x01b"),
		inPage("\x01\x01a"), inPage("\x01\x01a", 2), inPage("\x01\x01a", 2, 3, 4), inPage("\x00", 2), inPage("\x00"), inPage("", 2), inPage("", 2, 3),
		inPage("\x01", 2, 3), inPage("\x01\x01", 2, 3), inPage("\x01\x02a", 2, 3), inPage("\x01\x01a\x00", 2, 3), inPage("\x01\x01ab", 2, 3),
		inPage("\x02\x01a", 2, 3, 4), inPage("\x02\x01a", 2, 3), inPage("\x01\x01a\x01b", 2, 3), inPage("\x01\x01a\x01b", 2, 3, 4),
		inPage("\x01\x00", 2, 3), inPage("\x01"+short(long("a", 37)), 2, 3),
		inPage("\x02\x01b\x01a", 2, 3, 4), inPage("\x02\x01a\x01a", 2, 3, 4),
		inPage("\x01\x01a", 2, 2), inPage("\x01\x01a", 1, 2), inPage("\x01\x01a", 2, 0), inPage("\x01\x01a", -2, 3), inPage("\x01\x01a", 2, 1<<32), inPage("\x01\x01a", least, most),
		inPage("\x01\x01a\x00"), inPage("\xff\x01a", numbers(2, 256)...),
	} {
		wantNoParse(t, p)
	}
}

// N3: another kind than that of a leaf, or of an inner node.
func TestNoKind(t *testing.T) {
	for _, kind := range []int{least, -1, 0, 3, 4, 255, 256, 257, 258, 1 << 32, 1<<32 + 1, most} {
		wantNoParse(t, api.Page{Kind: kind, Body: "\x01\x01a\x00"})
		wantNoParse(t, api.Page{Kind: kind, Body: "\x01\x01a", Links: []int{2, 3}})
	}
	wantNoParse(t, api.Page{Kind: 2, Body: "\x01\x01a\x00"})
	wantNoParse(t, api.Page{Kind: 1, Body: "\x01\x01a"})
}

// N3: links that a leaf may not have.
func TestLeafLinks(t *testing.T) {
	for _, links := range [][]int{{2}, {2, 3}, {0}, {-1}, {2, 2}} {
		wantNoParse(t, api.Page{Kind: 1, Body: "\x01\x01a\x00", Links: links})
		wantNoParse(t, api.Page{Kind: 1, Body: "\x01\x01a", Links: links})
	}
	wantParse(t, api.Page{Kind: 1, Body: "\x01\x01a\x00", Links: []int{}}, leaf("a", ""))
}

// N3: a page that is cut, or goes on, or counts another number of keys, is that of no right node.
func TestSpoiltPages(t *testing.T) {
	for _, n := range []api.Node{leaf("a", "1", "bc", ""), sized(480), inner("a bc", 9, 2, 5), sizedInner(480)} {
		p := pageOf(n)
		wantParse(t, p, n)
		for cut := range len(p.Body) {
			q := p
			q.Body = p.Body[:cut]
			wantNoParse(t, q)
		}
		for b := range 256 {
			q := p
			q.Body = p.Body + string([]byte{byte(b)})
			wantNoParse(t, q)
			if b != len(n.Keys) {
				q.Body = string([]byte{byte(b)}) + p.Body[1:]
				wantNoParse(t, q)
			}
		}
		q := p
		q.Body += strings.Repeat("x", 1<<20)
		wantNoParse(t, q)
		q = p
		q.Links = slices.Concat(p.Links, numbers(5000, 1<<16))
		wantNoParse(t, q)
		q = p
		q.Kind = 3 - p.Kind
		wantNoParse(t, q)
	}
}

// N2: of nodes far beyond the bounds the answer is the same.
func TestGreatNodes(t *testing.T) {
	n := api.Node{Leaf: true}
	in := api.Node{Kids: numbers(2, 1<<16+1)}
	for i := range 1 << 16 {
		key := string([]byte{byte(i >> 8), byte(i)})
		n.Keys, n.Values = append(n.Keys, key), append(n.Values, val(200))
	}
	in.Keys = n.Keys
	wantNoPage(t, n, api.ErrNodeFull)
	wantNoPage(t, in, api.ErrNodeFull)
	wantNoSplit(t, n, api.ErrNodePart)
	wantNoSplit(t, in, api.ErrNodePart)
	wantNoJoin(t, n, "", in, api.ErrNodeForm)
	wantFind(t, n, "\x80\x00", 1<<15, true)
	wantFind(t, in, "\x80\x00", 1<<15+1, false)
	in.Kids[1<<16] = 2
	wantNoPage(t, in, api.ErrNodeForm)
}
