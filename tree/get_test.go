package tree_test

import (
	"testing"

	"latchkey/api"
	"latchkey/tree"
)

// T1: Open is the tree of the pager, without changes; it asks no disk.
func TestOpen(t *testing.T) {
	s := abc(t)
	wantPut(t, s.x, "z", "", api.OK)
	x := tree.Open(s.p)
	wantChanges(t, x)
	wantGet(t, x, "b", val(200), true, api.OK)
	wantGet(t, x, "z", "", false, api.OK)
	dead(t, s.d)
	x = tree.Open(s.p)
	if s.p.Doubt() {
		t.Fatal("Open has asked the disk")
	}
	wantChanges(t, x)
	wantGet(t, x, "b", "", false, api.ErrDead)
}

// T2: a key has 1 to 36 bytes.
func TestGetKey(t *testing.T) {
	s := having(t, 8, pairs("a", "1", key("b", 36), "2"))
	wantGet(t, s.x, "", "", false, api.ErrTreeKey)
	wantGet(t, s.x, "a", "1", true, api.OK)
	wantGet(t, s.x, key("b", 36), "2", true, api.OK)
	wantGet(t, s.x, key("b", 37), "", false, api.ErrTreeKey)
	wantGet(t, s.x, key("b", 35), "", false, api.OK)
	dead(t, s.d)
	wantGet(t, s.x, "", "", false, api.ErrTreeKey)
	wantGet(t, s.x, key("b", 37), "", false, api.ErrTreeKey)
	if s.p.Doubt() {
		t.Fatal("the pager is in doubt, and nobody was told of it")
	}
	wantGet(t, s.x, "a", "", false, api.ErrDead)
	if !s.p.Doubt() {
		t.Fatal("the pager is not in doubt")
	}
}

// T2: Get of what stands, of what is changed, gone, there no more, never there; a value may be empty.
func TestGet(t *testing.T) {
	s := having(t, 8, pairs("a", "1", "b", "2", "c", "", "d", "4"))
	wantPut(t, s.x, "a", "one", api.OK)
	wantDelete(t, s.x, "b", true, api.OK)
	wantPut(t, s.x, "e", "", api.OK)
	check := func() {
		wantGet(t, s.x, "a", "one", true, api.OK)
		wantGet(t, s.x, "b", "", false, api.OK)
		wantGet(t, s.x, "c", "", true, api.OK)
		wantGet(t, s.x, "d", "4", true, api.OK)
		wantGet(t, s.x, "e", "", true, api.OK)
		wantGet(t, s.x, "f", "", false, api.OK)
		wantGet(t, s.x, "aa", "", false, api.OK)
		wantGet(t, s.x, "\x00", "", false, api.OK)
	}
	check()
	wantCommit(t, s.x, api.OK)
	check()
	s = mounted(t, s.d)
	check()
}

// T2: Get in the empty tree, behind a disk's death too, and with changes in it.
func TestGetOfNothing(t *testing.T) {
	s := began(t, 8)
	wantGet(t, s.x, "a", "", false, api.OK)
	wantPut(t, s.x, "a", "1", api.OK)
	wantGet(t, s.x, "a", "1", true, api.OK)
	wantGet(t, s.x, "b", "", false, api.OK)
	dead(t, s.d)
	wantGet(t, s.x, "a", "", false, api.ErrDead)
	wantGet(t, s.x, "b", "", false, api.ErrDead)
	wantErrno(t, "Crash", s.d.Crash(nil), api.OK)
	wantGet(t, s.x, "a", "", false, api.ErrDead)
}

// T2: Get of each key of a tree of several levels, and between its keys.
func TestGetDeep(t *testing.T) {
	s := having(t, 200, remote(75))
	wantHeight(t, s.x, 3, api.OK)
	for _, pair := range remote(75) {
		wantGet(t, s.x, pair.Key, pair.Value, true, api.OK)
		wantGet(t, s.x, pair.Key[:35], "", false, api.OK)
	}
	wantGet(t, s.x, far(75), "", false, api.OK)
	wantGet(t, s.x, "a", "", false, api.OK)
	wantGet(t, s.x, "z", "", false, api.OK)
}
