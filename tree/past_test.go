package tree_test

import (
	"slices"
	"testing"

	"latchkey/api"
	"latchkey/tree"
)

// T8: the errors of Get, Scan and Back, in their order.
func TestPastRefused(t *testing.T) {
	s := abc(t)
	for _, root := range []int{least, -4096, -1, 1, 5, 15, 16, 4095, 4096, 1 << 32, most} {
		x := tree.At(s.p, root)
		wantGet(t, x, "a", "", false, api.ErrPagerNone)
		wantGet(t, x, "", "", false, api.ErrTreeKey)
		wantGet(t, x, key("k", 37), "", false, api.ErrTreeKey)
		wantScan(t, x, "", "", 0, nil, api.ErrPagerNone)
		wantScan(t, x, "b", "a", 1, nil, api.ErrPagerNone)
		wantBack(t, x, "", "", 0, nil, api.ErrPagerNone)
		wantBack(t, x, "a", "b", 1, nil, api.ErrPagerNone)
		for _, n := range []int{least, -1, 4097, most} {
			wantScan(t, x, "", "", n, nil, api.ErrArg)
			wantBack(t, x, "", "", n, nil, api.ErrArg)
		}
	}
	dead(t, s.d)
	for _, root := range []int{4, 0, 1, 9, -1} {
		x := tree.At(s.p, root)
		wantGet(t, x, "", "", false, api.ErrTreeKey)
		wantScan(t, x, "", "", -1, nil, api.ErrArg)
		wantBack(t, x, "", "", -1, nil, api.ErrArg)
	}
	if s.p.Doubt() {
		t.Fatal("the pager is in doubt, and nobody was told of it")
	}
	wantDead(t, s)
}

// T8: each of the calls tells of a death first.
func TestPastDead(t *testing.T) {
	for _, call := range []func(x *tree.Past) api.Errno{
		func(x *tree.Past) api.Errno { _, _, errno := x.Get("a"); return errno },
		func(x *tree.Past) api.Errno { _, errno := x.Scan("", "", 0); return errno },
		func(x *tree.Past) api.Errno { _, errno := x.Back("", "", 0); return errno },
	} {
		for _, root := range []int{4, 0, 1, 9, -1} {
			s := abc(t)
			x := tree.At(s.p, root)
			dead(t, s.d)
			wantErrno(t, "the call", call(x), api.ErrDead)
			if !s.p.Doubt() {
				t.Fatal("the pager is not in doubt")
			}
			wantErrno(t, "Crash", s.d.Crash(nil), api.OK)
			wantErrno(t, "the call", call(x), api.ErrDead)
		}
	}
}

// T8: the tree of 0 is empty; that of the root is the one that stands, without its changes.
func TestPastRoots(t *testing.T) {
	s := abc(t)
	l := pairs("a", val(200), "b", val(200), "c", val(200))
	wantDelete(t, s.x, "b", true, api.OK)
	wantPut(t, s.x, "d", "4", api.OK)
	down := slices.Clone(l)
	slices.Reverse(down)
	x := tree.At(s.p, 4)
	wantGet(t, x, "b", val(200), true, api.OK)
	wantGet(t, x, "d", "", false, api.OK)
	wantScan(t, x, "", "", every, l, api.OK)
	wantBack(t, x, "", "", every, down, api.OK)
	x = tree.At(s.p, 0)
	wantGet(t, x, "b", "", false, api.OK)
	wantScan(t, x, "", "", every, nil, api.OK)
	wantBack(t, x, "", "", every, nil, api.OK)
}

// T8: pages in use that are not the root have trees, too.
func TestPastParts(t *testing.T) {
	s := abc(t)
	wantScan(t, tree.At(s.p, 2), "", "", every, pairs("a", val(200)), api.OK)
	wantScan(t, tree.At(s.p, 3), "", "", every, pairs("b", val(200), "c", val(200)), api.OK)
	wantBack(t, tree.At(s.p, 3), "", "", every, pairs("c", val(200), "b", val(200)), api.OK)
	wantGet(t, tree.At(s.p, 3), "c", val(200), true, api.OK)
	wantGet(t, tree.At(s.p, 3), "a", "", false, api.OK)

	s = having(t, 200, remote(75))
	page, errno := s.p.Read(s.p.Root())
	wantErrno(t, "Read", errno, api.OK)
	var all []api.Pair
	for _, kid := range page.Links {
		l, errno := tree.At(s.p, kid).Scan("", "", every)
		wantErrno(t, "Scan", errno, api.OK)
		if len(l) < 2 || len(l) > 70 {
			t.Fatalf("a part of %d pairs", len(l))
		}
		all = append(all, l...)
	}
	if !slices.Equal(all, remote(75)) {
		t.Fatal("the parts are not the whole")
	}
}

// T8: Back goes from any text, down to any.
func TestBackBounds(t *testing.T) {
	l := pairs("d", "4", "c", "3", "bb", "2", "b", "1")
	s := having(t, 8, l)
	x := tree.At(s.p, s.p.Root())
	for _, c := range []struct {
		from, to string
		want     []api.Pair
	}{
		{"", "", l}, {"e", "", l}, {"d\x00", "", l}, {"d", "", l[1:]}, {"cc", "", l[1:]}, {"bb", "", l[3:]}, {"b\x00", "", l[3:]}, {"b", "", nil}, {"a", "", nil},
		{"", "a", l}, {"", "b", l}, {"", "b\x00", l[:3]}, {"", "bb", l[:3]}, {"", "d", l[:1]}, {"", "d\x00", nil}, {"", "z", nil},
		{"b", "b", nil}, {"b", "bb", nil}, {"bb", "c", nil}, {"a", "z", nil}, {"d", "bb", l[1:3]}, {"cc", "ba", l[1:3]},
		{"\xff", "\x00", l}, {key("c", 1000), key("b", 100), l[1:2]},
	} {
		wantBack(t, x, c.from, c.to, every, c.want, api.OK)
		for n := range len(c.want) {
			wantBack(t, x, c.from, c.to, n, c.want[:n], api.OK)
		}
	}
}

// T8: Back over trees of several levels, from each key on, so many as are asked for.
func TestBackDeep(t *testing.T) {
	l := remote(75)
	s := having(t, 200, l)
	x := tree.At(s.p, s.p.Root())
	slices.Reverse(l)
	for i, pair := range l {
		wantBack(t, x, pair.Key, "", every, l[i+1:], api.OK)
		wantBack(t, x, pair.Key+"\x00", "", 3, l[i:min(i+3, 75)], api.OK)
		wantBack(t, x, "", pair.Key, every, l[:i+1], api.OK)
		wantScan(t, x, "", pair.Key, 1, l[74:74+min(1, 74-i)], api.OK)
	}
	wantBack(t, x, "p", "", every, nil, api.OK)
	wantBack(t, x, "", "q", every, nil, api.OK)
}

// T8, T9, P10: a pin keeps the tree of its root, whatever is committed; behind it the root is no page in use, or another node's.
func TestPastPinned(t *testing.T) {
	l := stout(12)
	s := having(t, 60, l)
	root := s.p.Root()
	pin, errno := s.p.Pin()
	wantErrno(t, "Pin", errno, api.OK)
	x := tree.At(s.p, root)
	for _, pair := range l {
		wantDelete(t, s.x, pair.Key, true, api.OK)
		wantPut(t, s.x, "z"+pair.Key, "", api.OK)
		wantCommit(t, s.x, api.OK)
		wantScan(t, x, "", "", every, l, api.OK)
		wantGet(t, x, pair.Key, val(200), true, api.OK)
		wantGet(t, x, "z"+pair.Key, "", false, api.OK)
	}
	wantErrno(t, "Unpin", s.p.Unpin(pin), api.OK)
	wantScan(t, x, "", "", every, nil, api.ErrPagerNone)
	wantGet(t, x, "Ab", "", false, api.ErrPagerNone)
	wantBack(t, x, "", "", every, nil, api.ErrPagerNone)
	for s.p.Root() != root { // the page comes to be used again
		for _, pair := range stout(20) {
			s.x.Put(pair.Key, s.p.Note()[:10]+string([]byte{byte(s.p.Generation())})+val(180))
		}
		wantCommit(t, s.x, api.OK)
		if slices.Contains(s.p.Reached(), root) {
			break
		}
	}
	part, errno := x.Scan("", "", every)
	wantErrno(t, "Scan", errno, api.OK)
	has, _ := s.x.Scan("", "", every)
	if at := slices.Index(has, part[0]); at < 0 || !slices.Equal(part, has[at:at+len(part)]) {
		t.Fatalf("the tree of the page %d is %v", root, part)
	}
}
