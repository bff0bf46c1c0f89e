package node_test

import (
	"math/rand"
	"slices"
	"testing"

	"latchkey/api"
	"latchkey/node"
)

// wantAsModel holds all that is asked of one node against the chapter's words.
func wantAsModel(t *testing.T, n api.Node, key string) {
	t.Helper()
	wantSize(t, n, sizeOf(n))
	if errno := errnoOf(n); errno != api.OK {
		wantNoPage(t, n, errno)
	} else {
		wantPage(t, n, pageOf(n))
	}
	if errno := splitErrnoOf(n); errno != api.OK {
		wantNoSplit(t, n, errno)
	} else {
		at, _ := placeOf(n)
		wantSplitAt(t, n, at)
	}
	at, is := findOf(n, key)
	wantFind(t, n, key, at, is)
	for _, k := range n.Keys {
		at, is := findOf(n, k)
		wantFind(t, n, k, at, is)
	}
}

// N1, N2, N4 and N6: any node, right or not.
func TestAnyNode(t *testing.T) {
	r := rand.New(rand.NewSource(1))
	seen := map[api.Errno]int{}
	for range 20000 {
		n := someNode(r)
		wantAsModel(t, n, someText(r, 40))
		seen[errnoOf(n)]++
		seen[1000+splitErrnoOf(n)]++
	}
	for _, errno := range []api.Errno{0, 100, 101, 102, 1000, 1100, 1101, 1103} {
		if seen[errno] < 500 {
			t.Errorf("%d is seen %d times", errno, seen[errno])
		}
	}
}

// N7: any two nodes, and any key.
func TestAnyJoin(t *testing.T) {
	r := rand.New(rand.NewSource(2))
	seen := map[api.Errno]int{}
	for range 20000 {
		a, b, key := someNode(r), someNode(r), someText(r, 37)
		if r.Intn(3) > 0 {
			a, key, b = neighbours(r)
		}
		want, errno := joinedOf(a, key, b)
		seen[errno]++
		if errno != api.OK {
			wantNoJoin(t, a, key, b, errno)
		} else {
			wantJoin(t, a, key, b, want)
		}
	}
	for _, errno := range []api.Errno{0, 100, 101, 102, 103} {
		if seen[errno] < 300 {
			t.Errorf("%d is seen %d times", errno, seen[errno])
		}
	}
}

// neighbours are two nodes that mostly go together, and a key between.
func neighbours(r *rand.Rand) (api.Node, string, api.Node) {
	n := grownTo(r, r.Intn(2) == 0, 300+r.Intn(700))
	at := r.Intn(len(n.Keys) + 1)
	if r.Intn(2) == 0 {
		at = len(n.Keys) / 2
	}
	if at == 0 || at >= len(n.Keys)-1 {
		return n, "m", api.Node{Leaf: true}
	}
	a, key, b := cutAt(n, at)
	switch r.Intn(12) {
	case 0:
		key = n.Keys[at-1]
	case 1:
		key = n.Keys[at]
	case 2:
		key = someText(r, 38)
	case 3:
		a = spoilt(r, a)
	case 4:
		b = spoilt(r, b)
	case 5:
		a, b = spoilt(r, a), spoilt(r, b)
	}
	return a, key, b
}

// N3: any page, right or not: what is read has just that page, and what is refused is the page of no right node.
func TestAnyPage(t *testing.T) {
	r := rand.New(rand.NewSource(3))
	read, refused := 0, 0
	for range 20000 {
		n := grownTo(r, r.Intn(2) == 0, 480)
		if r.Intn(3) == 0 {
			n = grownTo(r, n.Leaf, 30)
		}
		p := pageOf(n)
		p.Links = slices.Clone(p.Links)
		p.Number, p.Birth = r.Int(), r.Int()
		spoilPage(r, &p)
		want, ok := parsed(p)
		if !ok {
			wantNoParse(t, p)
			refused++
			continue
		}
		read++
		wantParse(t, p, want)
		again, errno := node.Page(want)
		again.Number, again.Birth = p.Number, p.Birth
		if errno != api.OK || !samePage(again, p) {
			t.Errorf("%v is read, but printed as %v, %d", p, again, errno)
		}
	}
	if read < 3000 || refused < 3000 {
		t.Errorf("%d were read, %d refused", read, refused)
	}
}

// spoilPage changes some bytes or links of a page, or none.
func spoilPage(r *rand.Rand, p *api.Page) {
	for range r.Intn(3) {
		b := []byte(p.Body)
		switch at := r.Intn(len(b)); r.Intn(7) {
		case 0:
			b[at]++
		case 1:
			b[at] = byte(r.Intn(256))
		case 2:
			b = slices.Delete(b, at, at+1)
		case 3:
			b = slices.Insert(b, at, byte(r.Intn(4)))
		case 4:
			b[0] += byte(r.Intn(3))
		case 5:
			p.Links = append(p.Links, r.Intn(9))
		default:
			p.Kind = r.Intn(4)
		}
		p.Body = string(b)
		if len(b) == 0 {
			return
		}
	}
}

// N3 and P6: of all short bodies just those are read that are printed.
func TestEachShortBody(t *testing.T) {
	bodies := []string{""}
	for from := 0; len(bodies[from]) < 6; from++ {
		for _, b := range []string{"\x00", "\x01", "\x02", "a"} {
			bodies = append(bodies, bodies[from]+b)
		}
	}
	read := 0
	for _, body := range bodies {
		for kind := range 4 {
			for links := range 4 {
				p := api.Page{Kind: kind, Body: body, Links: numbers(2, links)}
				want, ok := parsed(p)
				got, errno := node.Parse(p)
				if ok != (errno == api.OK) || !same(got, want) {
					t.Fatalf("Parse(%v): %v, %d; want %v, %v", p, got, errno, want, ok)
				}
				if ok {
					read++
				}
			}
		}
	}
	// 164 leaves of one key; of inner nodes 20 of one key, 70 of two
	if read != 164+20+70 {
		t.Errorf("%d were read", read)
	}
}

// N8: Parse of Page is the node, Page of what Parse told is the page; its bytes are 481 at most.
func TestThereAndBack(t *testing.T) {
	r := rand.New(rand.NewSource(4))
	for range 10000 {
		n := grownTo(r, r.Intn(2) == 0, 480)
		p, errno := node.Page(n)
		if errno != api.OK || p.Number != 0 || p.Birth != 0 {
			t.Fatalf("Page(%v): %v, %d", n, p, errno)
		}
		if bytes := len(p.Body) + 4*len(p.Links); bytes > 481 || bytes != node.Size(n)+1 {
			t.Fatalf("Page(%v) has %d bytes", n, bytes)
		}
		m, errno := node.Parse(p)
		if errno != api.OK || !same(m, n) {
			t.Fatalf("Parse(%v): %v, %d", p, m, errno)
		}
		q, errno := node.Page(m)
		if errno != api.OK || !samePage(p, q) {
			t.Fatalf("%v and %v, %d", p, q, errno)
		}
	}
}

// N8: what Split gives are right nodes of 120 at least, on both sides of the key; Join of them is what was split.
func TestSplitAndJoin(t *testing.T) {
	r := rand.New(rand.NewSource(5))
	split := 0
	for split < 10000 {
		n := grownTo(r, r.Intn(2) == 0, 718)
		if node.Size(n) < 481 {
			continue
		}
		split++
		a, key, b, errno := node.Split(n)
		if errno != api.OK {
			t.Fatalf("Split(%v): %d", n, errno)
		}
		for _, side := range []api.Node{a, b} {
			if errnoOf(side) != api.OK || node.Size(side) < 120 || side.Leaf != n.Leaf {
				t.Fatalf("Split(%v) gives %v", n, side)
			}
			if _, errno := node.Page(side); errno != api.OK {
				t.Fatalf("Page of a side: %d", errno)
			}
		}
		if a.Keys[len(a.Keys)-1] >= key || b.Keys[0] < key || len(key) < 1 || len(key) > 36 {
			t.Fatalf("Split(%v): %v, %v, %v", n, a, key, b)
		}
		if _, greater := placeOf(n); max(node.Size(a), node.Size(b)) != greater {
			t.Fatalf("Split(%v): %d and %d, not %d", n, node.Size(a), node.Size(b), greater)
		}
		if m, errno := node.Join(a, key, b); errno != api.OK || !same(m, n) {
			t.Fatalf("Join(%v, %v, %v): %v, %d; not %v", a, key, b, m, errno, n)
		}
	}
}

// Find tells the place at which a key is put in, or to whose side of a split it belongs.
func TestFindAndSplit(t *testing.T) {
	r := rand.New(rand.NewSource(6))
	for range 3000 {
		n := grownTo(r, true, 718)
		a, key, b, errno := node.Split(n)
		if errno != api.OK {
			continue
		}
		up := api.Node{Keys: []string{key}, Kids: []int{2, 3}}
		for _, k := range n.Keys {
			side, _ := node.Find(up, k)
			if _, is := node.Find([]api.Node{a, b}[side], k); !is {
				t.Fatalf("%q is not on the side %d of %q", k, side, key)
			}
		}
	}
}

// Example 1.
func TestExampleOne(t *testing.T) {
	n := leaf("a", "1", "bc", "")
	wantSize(t, n, 8)
	wantPage(t, n, api.Page{Kind: 1, Body: string([]byte{2, 1, 97, 1, 49, 2, 98, 99, 0})})
	wantFind(t, n, "b", 1, false)
	wantFind(t, n, "bc", 1, true)
	wantFind(t, n, "z", 2, false)
}

// Example 2.
func TestExampleTwo(t *testing.T) {
	n := inner("m", 5, 9)
	wantSize(t, n, 10)
	wantPage(t, n, api.Page{Kind: 2, Links: []int{5, 9}, Body: string([]byte{1, 1, 109})})
	wantFind(t, n, "a", 0, false)
	wantFind(t, n, "m", 1, false)
}

// Example 3.
func TestExampleThree(t *testing.T) {
	wantBetween(t, "abc", "abx", "abx")
	wantBetween(t, "ab", "b", "b")
	wantBetween(t, "ab", "abcd", "abc")
	wantBetween(t, "apple", "pear", "p")
	wantBetween(t, "b", "a", "a")
}

// Example 4.
func TestExampleFour(t *testing.T) {
	v := val(97)
	six := leaf("a", v, "b", v, "c", v, "d", v, "e", v, "f", v)
	wantSize(t, six, 600)
	wantSplit(t, six, leaf("a", v, "b", v, "c", v), "d", leaf("d", v, "e", v, "f", v))
	wantNoSplit(t, leaf("a", v, "b", v), api.ErrNodePart)
}

// Example 5.
func TestExampleFive(t *testing.T) {
	a, b := leaf("a", "1"), leaf("b", "2")
	wantJoin(t, a, "b", b, leaf("a", "1", "b", "2"))
	wantNoJoin(t, a, "c", b, api.ErrNodePart)
	wantNoJoin(t, a, "", b, api.ErrNodeKey)
}
