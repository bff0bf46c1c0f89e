package tree_test

import (
	"strings"
	"testing"

	"latchkey/api"
	"latchkey/disk"
	"latchkey/tree"
)

// T6: a note has 16 bytes; that is looked at ahead of all else.
func TestCommitNote(t *testing.T) {
	s := having(t, 8, pairs("a", "1"))
	wantPut(t, s.x, "b", "2", api.OK)
	acts := s.d.Acts()
	for _, n := range []int{0, 1, 15, 17, 1000} {
		wantErrno(t, "Commit", s.x.Commit(strings.Repeat("n", n)), api.ErrArg)
	}
	wantChanges(t, s.x, "b")
	if s.d.Acts() != acts {
		t.Fatal("a commit that was refused has done an act")
	}
	note := "\x00\xffany note will do"
	wantErrno(t, "Commit", s.x.Commit(note[:16]), api.OK)
	if s.p.Note() != note[:16] {
		t.Fatalf("Note: %q", s.p.Note())
	}
	dead(t, s.d)
	wantErrno(t, "Commit", s.x.Commit("short"), api.ErrArg)
	if s.p.Doubt() {
		t.Fatal("the pager is in doubt, and nobody was told of it")
	}
	wantErrno(t, "Commit", s.x.Commit(n16), api.ErrDead)
	if !s.p.Doubt() {
		t.Fatal("the pager is not in doubt")
	}
}

// T6: without changes a commit writes no page, has the same root, and that note.
func TestCommitOfNothing(t *testing.T) {
	for _, l := range [][]api.Pair{nil, pairs("a", "1"), stout(12)} {
		s := having(t, 40, l)
		root, reached, blocks, acts := s.p.Root(), s.p.Reached(), s.d.Blocks(), s.d.Acts()
		wantErrno(t, "Commit", s.x.Commit(m16), api.OK)
		blocks[s.p.Generation()%2] = headOf(s.p.Generation(), root, 40, m16)
		wantBlocks(t, s.d.Blocks(), blocks)
		wantPages(t, s.p, root, reached...)
		if s.p.Generation() != 3 || s.d.Acts() != acts+3 {
			t.Fatalf("generation %d, %d acts", s.p.Generation(), s.d.Acts()-acts)
		}
		wantScan(t, s.x, "", "", every, l, api.OK)
	}
}

// T6: a key that was changed and put back is none of what is written.
func TestCommitOfPutBack(t *testing.T) {
	s := having(t, 16, stout(6))
	reached := s.p.Reached()
	wantPut(t, s.x, "Ab", "", api.OK)
	wantDelete(t, s.x, "Db", true, api.OK)
	wantPut(t, s.x, "Ab", val(200), api.OK)
	wantPut(t, s.x, "Db", val(200), api.OK)
	root := s.p.Root()
	wantCommit(t, s.x, api.OK)
	wantPages(t, s.p, root, reached...)
}

// T6: there must be as many free pages as nodes are written; those that come free by the commit are none of them.
func TestCommitFull(t *testing.T) {
	for n := 1; n <= 26; n++ {
		var l list
		l.stands, l.has = map[string]string{}, map[string]string{}
		for _, pair := range stout(n) {
			l.has[pair.Key] = pair.Value
		}
		need := len(l.made(t, began(t, 8).p).toWrite())
		having(t, max(8, need+2), stout(n))
		if need < 7 {
			continue
		}
		s := began(t, need+1)
		for _, pair := range stout(n) {
			wantPut(t, s.x, pair.Key, pair.Value, api.OK)
		}
		wantFull(t, s, l.changes())
	}
}

// wantFull says that a commit has no room, and that nothing is changed by it.
func wantFull(t *testing.T, s *store, changes []string) {
	t.Helper()
	blocks, acts := s.d.Blocks(), s.d.Acts()
	has, errno := s.x.Scan("", "", every)
	wantErrno(t, "Scan", errno, api.OK)
	wantErrno(t, "Commit", s.x.Commit("short"), api.ErrArg)
	wantCommit(t, s.x, api.ErrPagerFull)
	wantBlocks(t, s.d.Blocks(), blocks)
	wantChanges(t, s.x, changes...)
	wantScan(t, s.x, "", "", every, has, api.OK)
	if s.d.Acts() != acts || s.p.Doubt() {
		t.Fatal("a commit that has no room has done an act, or brought a doubt")
	}
}

// T6: pages that pins keep are not free, nor those that the commit itself would free.
func TestCommitFullOfPins(t *testing.T) {
	s := having(t, 9, pairs("a", val(200), "b", val(200), "c", val(200)))
	wantPages(t, s.p, 4, 2, 3, 4)
	for n, reached := range [][]int{{2, 5, 6}, {2, 7, 8}, {2, 5, 6}} {
		if n != 1 {
			_, errno := s.p.Pin()
			wantErrno(t, "Pin", errno, api.OK)
		}
		wantPut(t, s.x, "c", val(199-n), api.OK)
		wantCommit(t, s.x, api.OK)
		wantPages(t, s.p, reached[2], reached...)
	}
	wantPut(t, s.x, "c", "", api.OK)
	wantFull(t, s, []string{"c"})
	wantErrno(t, "Unpin", s.p.Unpin(1), api.OK)
	wantCommit(t, s.x, api.OK)
	wantPages(t, s.p, 4, 2, 3, 4)
	wantScan(t, s.x, "c", "", 1, pairs("c", ""), api.OK)
}

// T6: at the last generation no commit is left: behind ErrPagerFull, with the changes as they were.
func TestCommitWorn(t *testing.T) {
	s := atLast(t, 8)
	wantCommit(t, s.x, api.ErrPagerWorn)
	wantPut(t, s.x, "a", "1", api.OK)
	wantErrno(t, "Commit", s.x.Commit(""), api.ErrArg)
	wantCommit(t, s.x, api.ErrPagerWorn)
	wantChanges(t, s.x, "a")
	wantGet(t, s.x, "a", "1", true, api.OK)
	var keys []string
	for _, pair := range stout(20) {
		wantPut(t, s.x, pair.Key, pair.Value, api.OK)
		keys = append(keys, pair.Key)
	}
	wantFull(t, s, append(keys, "a"))
	if s.d.Acts() != 0 {
		t.Fatal("a commit that was refused has done an act")
	}
	dead(t, s.d)
	wantCommit(t, s.x, api.ErrDead)
}

// T6, T9: a death at each act of a commit; the changes are as they were, and what stands behind a crash is what stood, or what was committed.
func TestCommitDies(t *testing.T) {
	stood, has := stout(8), map[string]string{"Ab": "", "Ca": val(200), "Da": "1"}
	for _, pair := range stood[2:] {
		has[pair.Key] = pair.Value
	}
	for act := 1; ; act++ {
		s := having(t, 40, stood)
		wantDelete(t, s.x, "Bb", true, api.OK)
		for key, value := range has {
			wantPut(t, s.x, key, value, api.OK)
		}
		changes := s.x.Changes()
		wantErrno(t, "Arm", s.d.Arm(act), api.OK)
		if errno := s.x.Commit(m16); errno == api.OK {
			wantScan(t, s.x, "", "", every, rising(has, "", "", every), api.OK)
			if act < 6 {
				t.Fatalf("a commit of %d acts", act-1)
			}
			return
		}
		wantChanges(t, s.x, changes...)
		wantDead(t, s)
		s.x.Abort()
		wantChanges(t, s.x)
		for _, made := range []bool{false, true} {
			wantBehind(t, s.d, made, stood, has)
		}
	}
}

// wantBehind is a crash that keeps nothing, or all, of what is pending on a disk.
func wantBehind(t *testing.T, d *disk.Disk, all bool, stood []api.Pair, has map[string]string) {
	t.Helper()
	copied, errno := disk.Load(d.Blocks())
	wantErrno(t, "Load", errno, api.OK)
	pending := d.Pending()
	want := stood
	for _, write := range pending {
		if all {
			wantErrno(t, "Write", copied.Write(write.Block, write.Data), api.OK)
			wantErrno(t, "Sync", copied.Sync(), api.OK)
			if write.Block < 2 {
				want = rising(has, "", "", every)
			}
		}
	}
	s := mounted(t, copied)
	wantScan(t, s.x, "", "", every, want, api.OK)
	wantSound(t, s.p)
}

// T7: all nodes on the way to a change are written anew, and no others.
func TestCommitOfOneWay(t *testing.T) {
	b := newBoth(t, 200)
	for _, pair := range remote(75) {
		b.put(t, pair.Key, pair.Value)
	}
	b.commit(t, n16)
	reached := b.p.Reached()
	wantHeight(t, b.x, 3, api.OK)
	b.put(t, far(30), val(199))
	b.commit(t, n16)
	n := 0
	for _, page := range reached {
		if _, errno := b.p.Read(page); errno == api.ErrPagerNone {
			n++
		}
	}
	if n != 3 || len(b.p.Reached()) != len(reached) {
		t.Fatalf("%d pages are gone, %d are reached, of %d", n, len(b.p.Reached()), len(reached))
	}
}

// T7: a poor node that is not the first kid is put together with its left neighbour, the first one with its right one.
func TestCommitJoins(t *testing.T) {
	l := pairs("a", val(117), "b", val(117), "c", val(117), "d", val(117), "e", val(117), "f", val(117), "g", val(117))
	began := func() *both {
		b := newBoth(t, 40)
		for _, pair := range l {
			b.put(t, pair.Key, pair.Value)
			b.commit(t, n16)
		}
		wantSound(t, b.p)
		return b
	}
	b := began() // leaves of a b, c d, e f g
	wantNode(t, b.p, b.p.Root(), inner("c e", kids(t, b)...))
	b.delete(t, "c")
	b.commit(t, n16) // d alone has 120 bytes: it is not poor
	b.put(t, "d", val(116))
	b.commit(t, n16) // one fewer: it goes to its left neighbour
	wantNode(t, b.p, b.p.Root(), inner("e", kids(t, b)...))
	wantNode(t, b.p, kids(t, b)[0], leaf("a", val(117), "b", val(117), "d", val(116)))

	b = began()
	b.delete(t, "a")
	b.put(t, "b", "")
	b.commit(t, n16) // the first kid goes to its right neighbour
	wantNode(t, b.p, b.p.Root(), inner("e", kids(t, b)...))
	wantNode(t, b.p, kids(t, b)[0], leaf("b", "", "c", val(117), "d", val(117)))

	b = began()
	b.delete(t, "a")
	b.delete(t, "b")
	b.commit(t, n16) // also if nothing is left of it
	wantNode(t, b.p, b.p.Root(), inner("e", kids(t, b)...))
	wantNode(t, b.p, kids(t, b)[0], leaf("c", val(117), "d", val(117)))
}

// kids are those of the root.
func kids(t *testing.T, b *both) []int {
	t.Helper()
	page, errno := b.p.Read(b.p.Root())
	wantErrno(t, "Read", errno, api.OK)
	return page.Links
}

// T7: two neighbours that are too great for one node are parted anew.
func TestCommitJoinsAndParts(t *testing.T) {
	for _, first := range []bool{false, true} {
		b := newBoth(t, 40)
		for _, k := range []string{"a", "b", "c", "d", "e", "f"} {
			b.put(t, k, val(117))
		}
		b.commit(t, n16) // leaves of a b, c d e f
		wantNode(t, b.p, b.p.Root(), inner("c", kids(t, b)...))
		wantNode(t, b.p, kids(t, b)[1], leaf("c", val(117), "d", val(117), "e", val(117), "f", val(117)))
		if first {
			b.delete(t, "a")
			b.put(t, "b", val(116))
			b.commit(t, n16) // 119 and 480
			wantNode(t, b.p, b.p.Root(), inner("e", kids(t, b)...))
			wantNode(t, b.p, kids(t, b)[0], leaf("b", val(116), "c", val(117), "d", val(117)))
			wantNode(t, b.p, kids(t, b)[1], leaf("e", val(117), "f", val(117)))
			continue
		}
		b.put(t, "aa", val(116))
		b.put(t, "ab", val(116))
		for _, k := range []string{"d", "e", "f"} {
			b.delete(t, k)
		}
		b.put(t, "c", val(116))
		b.commit(t, n16) // 480 and 119
		wantNode(t, b.p, b.p.Root(), inner("ab", kids(t, b)...))
		wantNode(t, b.p, kids(t, b)[0], leaf("a", val(117), "aa", val(116)))
		wantNode(t, b.p, kids(t, b)[1], leaf("ab", val(116), "b", val(117), "c", val(116)))
	}
}

// T7: the edges of a node's room: 480 bytes stay one leaf, 481 are parted; the root may be poor.
func TestCommitEdges(t *testing.T) {
	b := newBoth(t, 16)
	for _, k := range []string{"a", "b", "c", "d"} {
		b.put(t, k, val(117))
	}
	b.commit(t, n16)
	wantHeight(t, b.x, 1, api.OK)
	b.put(t, "d", val(118))
	b.commit(t, n16)
	wantHeight(t, b.x, 2, api.OK)
	b.put(t, "a", "")
	b.put(t, "b", "")
	b.commit(t, n16)
	wantHeight(t, b.x, 1, api.OK)
	b.delete(t, "c")
	b.delete(t, "d")
	b.commit(t, n16)
	wantNode(t, b.p, b.p.Root(), leaf("a", "", "b", ""))
	b.delete(t, "a")
	b.delete(t, "b")
	b.commit(t, n16)
	wantPages(t, b.p, 0)
	b.put(t, "a", "")
	b.delete(t, "a")
	b.commit(t, n16)
	wantPages(t, b.p, 0)
}

// T7: a tree is emptied and filled anew by one commit: the leaf comes of nothing.
func TestCommitOfAnotherTree(t *testing.T) {
	for _, l := range [][]api.Pair{pairs("a", "1", "b", "2"), stout(12), remote(60)} {
		b := newBoth(t, 200)
		for _, pair := range l {
			b.put(t, pair.Key, pair.Value)
		}
		b.commit(t, n16)
		for _, pair := range l {
			b.delete(t, pair.Key)
			b.put(t, "z"+pair.Key[1:], pair.Value)
			b.put(t, "0"+pair.Key[1:], pair.Value)
		}
		b.commit(t, n16)
		wantSound(t, b.p)
		wantScan(t, b.x, "", "", every, rising(b.l.has, "", "", every), api.OK)
	}
}

// Trees of one pager one behind the other: the next one goes on from what the first one has committed.
func TestOpenAnew(t *testing.T) {
	s := abc(t)
	wantDelete(t, s.x, "a", true, api.OK)
	wantCommit(t, s.x, api.OK)
	x := tree.Open(s.p)
	wantScan(t, x, "", "", every, pairs("b", val(200), "c", val(200)), api.OK)
	wantPut(t, x, "d", "4", api.OK)
	wantCommit(t, x, api.OK)
	wantScan(t, tree.Open(s.p), "c", "", every, pairs("c", val(200), "d", "4"), api.OK)
}
