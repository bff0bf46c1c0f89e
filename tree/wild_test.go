package tree_test

import (
	"math/rand"
	"slices"
	"testing"
	"time"

	"latchkey/api"
	"latchkey/node"
	"latchkey/tree"
)

// laid is a store in which pages stand as somebody laid them down, whether these are a tree or not: the first one on the page 2.
func laid(t *testing.T, blocks, root int, pages ...api.Page) *store {
	t.Helper()
	s := began(t, blocks)
	for i := range pages {
		pages[i].Number = 2 + i
	}
	wantErrno(t, "Commit", s.p.Commit(pages, root, n16, nil), api.OK)
	return s
}

// page is that of a node, right or not.
func page(n api.Node) api.Page { return pageOf(0, 0, n) }

// ends says that something ends soon.
func ends(t *testing.T, do func()) {
	t.Helper()
	done := make(chan struct{})
	go func() {
		defer close(done)
		do()
	}()
	select {
	case <-done:
	case <-time.After(30 * time.Second):
		t.Fatal("a call does not end")
	}
}

// asked asks whatever may be asked of a tree; wherever it is none, the answer is ErrTreeForm, and nothing else.
func asked(t *testing.T, s *store, keys []string) {
	t.Helper()
	var errnos []api.Errno
	look := func(x reads) {
		for _, k := range keys {
			value, there, errno := x.Get(k)
			if errno != api.OK && (value != "" || there) {
				t.Errorf("Get(%q): %q, %v, %d", k, value, there, errno)
			}
			errnos = append(errnos, errno)
			l, errno := x.Scan(k, "", every)
			if errno != api.OK && l != nil {
				t.Errorf("Scan(%q): %v, %d", k, l, errno)
			}
			errnos = append(errnos, errno)
		}
	}
	past := func(x *tree.Past) {
		look(x)
		for _, k := range append(keys, "") {
			l, errno := x.Back(k, "", every)
			if errno != api.OK && l != nil {
				t.Errorf("Back(%q): %v, %d", k, l, errno)
			}
			errnos = append(errnos, errno)
		}
	}
	look(s.x)
	for n := range 8 {
		if _, errno := s.p.Read(n); errno == api.OK {
			past(tree.At(s.p, n))
		}
	}
	h, errno := s.x.Height()
	if errno != api.OK && h != 0 {
		t.Errorf("Height: %d, %d", h, errno)
	}
	errnos = append(errnos, errno)
	wantForms(t, errnos)
}

func wantForms(t *testing.T, errnos []api.Errno) {
	t.Helper()
	for _, errno := range errnos {
		if errno != api.OK && errno != api.ErrTreeForm {
			t.Errorf("an answer over pages that are no tree: %d", errno)
		}
	}
}

// changed changes and commits whatever may be changed.
func changed(t *testing.T, s *store, r *rand.Rand, keys []string) {
	t.Helper()
	for range 6 {
		for range 1 + r.Intn(4) {
			k := keys[r.Intn(len(keys))]
			if r.Intn(2) == 0 {
				wantForms(t, []api.Errno{s.x.Put(k, val(r.Intn(201)))})
			} else {
				had, errno := s.x.Delete(k)
				if errno != api.OK && had {
					t.Errorf("Delete(%q): %v, %d", k, had, errno)
				}
				wantForms(t, []api.Errno{errno})
			}
		}
		before, blocks := s.x.Changes(), s.d.Blocks()
		switch errno := s.x.Commit(n16); errno {
		case api.OK:
			wantChanges(t, s.x)
		case api.ErrTreeForm, api.ErrPagerFull:
			wantChanges(t, s.x, before...)
			wantBlocks(t, s.d.Blocks(), blocks)
			s.x.Abort()
		default:
			t.Errorf("Commit over pages that are no tree: %d", errno)
		}
	}
}

// Pages that lead back to themselves, by one or by several steps, or twice to one page.
func TestCycles(t *testing.T) {
	t.Parallel()
	full := leaf("k", val(200), "l", val(200))
	for name, pages := range map[string][]api.Page{
		"itself on the left":  {page(inner("m", 2, 3)), page(full)},
		"itself on the right": {page(inner("c", 3, 2)), page(leaf("a", val(200), "b", val(200)))},
		"by two":              {page(inner("m", 3, 4)), page(inner("k", 5, 2)), page(full), page(full)},
		"by three":            {page(inner("m", 3, 4)), page(inner("k", 5, 6)), page(full), page(inner("c", 2, 7)), page(full), page(full)},
		"the root's kid":      {page(inner("m", 3, 4)), page(inner("c", 3, 5)), page(full), page(full)},
		"twice one leaf":      {page(inner("m", 3, 4)), page(inner("c", 5, 6)), page(inner("p", 5, 6)), page(full), page(full)},
		"poor and cyclic":     {page(inner("m", 3, 2)), page(inner("c", 4, 5)), page(leaf("a", "")), page(leaf("d", ""))},
		"poor behind itself":  {page(inner("c", 2, 3)), page(inner("m", 4, 5)), page(leaf("d", "")), page(leaf("n", ""))},
	} {
		t.Run(name, func(t *testing.T) {
			keys := []string{"a", "b", "c", "d", "k", "m", "n", "z"}
			for seed := range int64(20) {
				s := laid(t, 24, 2, slices.Clone(pages)...)
				ends(t, func() {
					asked(t, s, keys)
					changed(t, s, rand.New(rand.NewSource(seed)), keys)
					asked(t, s, keys)
				})
			}
		})
	}
}

// Where a cycle or a page twice lies on the way, the answer is ErrTreeForm.
func TestCyclesRefused(t *testing.T) {
	s := laid(t, 24, 2, page(inner("m", 2, 3)), page(leaf("n", "")))
	wantGet(t, s.x, "a", "", false, api.ErrTreeForm)
	wantPut(t, s.x, "a", "", api.ErrTreeForm)
	wantDelete(t, s.x, "a", false, api.ErrTreeForm)
	wantScan(t, s.x, "", "", 1, nil, api.ErrTreeForm)
	wantHeight(t, s.x, 0, api.ErrTreeForm)
	wantBack(t, tree.At(s.p, 2), "", "", every, nil, api.ErrTreeForm)
	wantChanges(t, s.x)
}

// Pages of other kinds, nodes that are not right, kids that are no pages in use.
func TestNoTrees(t *testing.T) {
	right := page(leaf("a", "1"))
	for name, pages := range map[string][]api.Page{
		"another kind":         {{Kind: 3, Body: right.Body}},
		"no body":              {{Kind: api.PageLeaf}},
		"a leaf without keys":  {page(leaf())},
		"an inner without any": {page(inner("", 3)), right},
		"keys that fall":       {page(leaf("b", "", "a", ""))},
		"a kid of no kind":     {page(inner("m", 3, 4)), {Kind: 9}, {Kind: 9}},
		"a kid that is wrong":  {page(inner("m", 3, 4)), {Kind: 1, Body: "x"}, {Kind: 2, Body: "x"}},
	} {
		t.Run(name, func(t *testing.T) {
			s := laid(t, 8, 2, pages...)
			wantGet(t, s.x, "a", "", false, api.ErrTreeForm)
			wantGet(t, s.x, "", "", false, api.ErrTreeKey)
			wantPut(t, s.x, "a", "", api.ErrTreeForm)
			wantPut(t, s.x, "a", val(201), api.ErrTreeValue)
			wantDelete(t, s.x, "a", false, api.ErrTreeForm)
			wantScan(t, s.x, "", "", 0, nil, api.ErrTreeForm)
			wantScan(t, s.x, "", "", -1, nil, api.ErrArg)
			wantHeight(t, s.x, 0, api.ErrTreeForm)
			wantGet(t, tree.At(s.p, 2), "a", "", false, api.ErrTreeForm)
			wantScan(t, tree.At(s.p, 2), "", "", 0, nil, api.ErrTreeForm)
			wantBack(t, tree.At(s.p, 2), "", "", 0, nil, api.ErrTreeForm)
			wantCommit(t, s.x, api.OK) // without changes nothing is read
			dead(t, s.d)
			wantDead(t, s)
		})
	}
}

// Kids that are free, or held alone: the page that names them was not written anew.
func TestKidsNotInUse(t *testing.T) {
	for _, pinned := range []bool{false, true} {
		s := laid(t, 16, 4, page(leaf("a", val(200))), page(leaf("n", val(200))), page(inner("m", 2, 3)))
		if pinned {
			_, errno := s.p.Pin()
			wantErrno(t, "Pin", errno, api.OK)
		}
		wantErrno(t, "Commit", s.p.Commit(nil, 4, n16, []int{2}), api.OK)
		wantGet(t, s.x, "n", val(200), true, api.OK)
		if !pinned {
			wantGet(t, s.x, "a", "", false, api.ErrTreeForm)
			wantScan(t, tree.At(s.p, 4), "", "", 1, nil, api.ErrTreeForm)
			wantBack(t, tree.At(s.p, 4), "", "", 2, nil, api.ErrTreeForm)
			continue
		}
		wantPut(t, s.x, "a", val(199), api.OK)
		wantCommit(t, s.x, api.ErrTreeForm)
		wantChanges(t, s.x, "a")
	}
}

// Trees whose nodes are too poor, whose keys are out of their bounds, whose leaves are unlike deep.
func TestUnsound(t *testing.T) {
	t.Parallel()
	keys := []string{"a", "b", "c", "d", "k", "m", "n", "z"}
	for name, pages := range map[string][]api.Page{
		"poor leaves":     {page(inner("c m", 3, 4, 5)), page(leaf("a", "")), page(leaf("d", "")), page(leaf("n", ""))},
		"poor inners":     {page(inner("m", 3, 4)), page(inner("c", 5, 6)), page(inner("p", 7, 8)), page(leaf("a", "")), page(leaf("d", "")), page(leaf("n", "")), page(leaf("z", ""))},
		"unlike deep":     {page(inner("m", 3, 4)), page(leaf("a", "")), page(inner("n", 5, 6)), page(leaf("m", "")), page(leaf("n", ""))},
		"unlike deep too": {page(inner("m", 3, 4)), page(inner("c", 5, 6)), page(leaf("n", "")), page(leaf("a", "")), page(leaf("d", ""))},
		"out of bounds":   {page(inner("c m", 3, 4, 5)), page(leaf("z", val(130))), page(leaf("a", val(150))), page(leaf("b", val(160)))},
		"one key twice":   {page(inner("c m", 3, 4, 5)), page(leaf("a", val(130))), page(leaf("a", val(150))), page(leaf("a", val(160)))},
		"bounds that fall": {page(inner("c", 3, 4)), page(inner("y z", 5, 6, 7)), page(inner("a b", 8, 9, 10)),
			page(leaf("a", val(130))), page(leaf("y", val(130))), page(leaf("z", val(130))), page(leaf("a", val(130))), page(leaf("b", val(130))), page(leaf("c", val(130)))},
	} {
		t.Run(name, func(t *testing.T) {
			for seed := range int64(30) {
				s := laid(t, 40, 2, slices.Clone(pages)...)
				ends(t, func() {
					asked(t, s, keys)
					changed(t, s, rand.New(rand.NewSource(seed)), keys)
					asked(t, s, keys)
				})
			}
		})
	}
}

// A node that would have to be parted, and whose keys do not rise: the first leaf has keys that belong far behind it.
func TestPartsRefused(t *testing.T) {
	root := api.Node{Kids: []int{3}}
	pages := []api.Page{{}, page(leaf(far(300), val(200), far(301), val(200)))}
	for i := range 11 {
		root.Keys = append(root.Keys, far(100+i))
		root.Kids = append(root.Kids, 4+i)
		pages = append(pages, page(leaf(far(100+i), val(100))))
	}
	pages[0] = page(root)
	s := laid(t, 40, 2, pages...)
	wantPut(t, s.x, "a", val(200), api.OK)
	wantCommit(t, s.x, api.ErrTreeForm)
	wantChanges(t, s.x, "a")
}

// Pages drawn at random, of which some name one another as they like.
func TestWildPages(t *testing.T) {
	t.Parallel()
	letters := []string{"a", "c", "e", "g", "i", "k", "m", "o", "q", "s", "u", "w"}
	r := rand.New(rand.NewSource(50))
	for range 700 {
		count := 1 + r.Intn(12)
		var l []api.Page
		for range count {
			l = append(l, page(wildNode(r, letters, count)))
			if r.Intn(30) == 0 {
				l[len(l)-1].Kind = r.Intn(3) + 1
			}
		}
		s := laid(t, 40, 2+r.Intn(count), l...)
		ends(t, func() {
			asked(t, s, []string{"a", "b", "k", "z"})
			changed(t, s, r, append(letters, "b", "d", "z"))
			asked(t, s, []string{"a", "b", "k", "z"})
		})
	}
}

// wildNode is a right node, but for whom it names.
func wildNode(r *rand.Rand, letters []string, pages int) api.Node {
	at := slices.Sorted(slices.Values(r.Perm(len(letters))[:1+r.Intn(4)]))
	n := api.Node{Leaf: r.Intn(2) == 0 || pages < 5}
	for _, i := range at {
		n.Keys = append(n.Keys, letters[i])
		if n.Leaf {
			n.Values = append(n.Values, val(r.Intn(115)))
		}
	}
	if !n.Leaf {
		for _, i := range r.Perm(pages)[:len(n.Keys)+1] {
			n.Kids = append(n.Kids, 2+i)
		}
	}
	if node.Size(n) > 480 {
		return leaf("a", "")
	}
	return n
}

// Two trees of one pager, of which each commits: nothing is promised of what they have, but that each call ends.
func TestTwoTrees(t *testing.T) {
	r := rand.New(rand.NewSource(51))
	for range 100 {
		s := having(t, 60, stout(8))
		one, two := s.x, tree.Open(s.p)
		for range 20 {
			x := one
			if r.Intn(2) == 0 {
				x = two
			}
			pair := stout(8)[r.Intn(8)]
			if r.Intn(2) == 0 {
				x.Put(pair.Key, val(r.Intn(201)))
			} else {
				x.Delete(pair.Key)
			}
			if r.Intn(4) == 0 {
				x.Commit(n16)
			}
		}
	}
	s := having(t, 8, pairs("a", "1"))
	two := tree.Open(s.p)
	wantDelete(t, s.x, "a", true, api.OK)
	wantDelete(t, two, "a", true, api.OK)
	wantCommit(t, two, api.OK)
	wantCommit(t, s.x, api.OK)
	wantPages(t, s.p, 0)
}
