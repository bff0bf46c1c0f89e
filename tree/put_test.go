package tree_test

import (
	"testing"

	"latchkey/api"
)

// T3: the errors of Put and Delete, and several at once.
func TestPutRefused(t *testing.T) {
	s := having(t, 8, pairs("a", "1"))
	for _, wrong := range []string{"", key("k", 37)} {
		wantPut(t, s.x, wrong, "", api.ErrTreeKey)
		wantPut(t, s.x, wrong, val(201), api.ErrTreeKey)
		wantDelete(t, s.x, wrong, false, api.ErrTreeKey)
	}
	wantPut(t, s.x, "a", val(201), api.ErrTreeValue)
	wantPut(t, s.x, key("k", 36), val(1000), api.ErrTreeValue)
	wantChanges(t, s.x)
	dead(t, s.d)
	wantPut(t, s.x, "", val(201), api.ErrTreeKey)
	wantPut(t, s.x, key("k", 37), "", api.ErrTreeKey)
	wantPut(t, s.x, "a", val(201), api.ErrTreeValue)
	wantDelete(t, s.x, "", false, api.ErrTreeKey)
	wantDelete(t, s.x, key("k", 37), false, api.ErrTreeKey)
	if s.p.Doubt() {
		t.Fatal("the pager is in doubt, and nobody was told of it")
	}
	wantPut(t, s.x, "a", "1", api.ErrDead)
	wantPut(t, s.x, "b", "", api.ErrDead)
	wantDelete(t, s.x, "a", false, api.ErrDead)
	wantDelete(t, s.x, "b", false, api.ErrDead)
	wantChanges(t, s.x)
}

// T3: Put and Delete answer ErrDead of a disk that is dead, and their changes stay as they were.
func TestPutDead(t *testing.T) {
	for _, call := range []func(s *store) api.Errno{
		func(s *store) api.Errno { return s.x.Put("a", "1") },
		func(s *store) api.Errno { return s.x.Put("c", "3") },
		func(s *store) api.Errno { _, errno := s.x.Delete("a"); return errno },
		func(s *store) api.Errno { _, errno := s.x.Delete("b"); return errno },
	} {
		s := having(t, 8, pairs("a", "1"))
		wantPut(t, s.x, "a", "2", api.OK)
		wantPut(t, s.x, "b", "2", api.OK)
		dead(t, s.d)
		wantErrno(t, "the call", call(s), api.ErrDead)
		wantChanges(t, s.x, "a", "b")
		if !s.p.Doubt() {
			t.Fatal("the pager is not in doubt")
		}
	}
}

// T3: values of 0 to 200 bytes, keys of 1 to 36.
func TestPutSizes(t *testing.T) {
	s := began(t, 16)
	for _, n := range []int{1, 2, 35, 36} {
		for i, size := range []int{0, 1, 199, 200} {
			k := key(string([]byte{byte('a' + i)}), n)
			wantPut(t, s.x, k, val(size), api.OK)
			wantGet(t, s.x, k, val(size), true, api.OK)
		}
	}
	wantCommit(t, s.x, api.OK)
	for _, n := range []int{1, 2, 35, 36} {
		for i, size := range []int{0, 1, 199, 200} {
			wantGet(t, s.x, key(string([]byte{byte('a' + i)}), n), val(size), true, api.OK)
		}
	}
}

// T3: a key for which what stands is asked for is none of the changes, also if it was one.
func TestPutAsItStands(t *testing.T) {
	s := having(t, 8, pairs("a", "1", "b", "", "c", "3"))
	wantPut(t, s.x, "a", "1", api.OK)
	wantPut(t, s.x, "b", "", api.OK)
	wantDelete(t, s.x, "d", false, api.OK)
	wantChanges(t, s.x)

	wantPut(t, s.x, "a", "2", api.OK)
	wantPut(t, s.x, "a", "3", api.OK)
	wantChanges(t, s.x, "a")
	wantPut(t, s.x, "a", "1", api.OK)
	wantChanges(t, s.x)

	wantDelete(t, s.x, "b", true, api.OK)
	wantChanges(t, s.x, "b")
	wantPut(t, s.x, "b", "2", api.OK)
	wantChanges(t, s.x, "b")
	wantDelete(t, s.x, "b", true, api.OK)
	wantPut(t, s.x, "b", "", api.OK)
	wantChanges(t, s.x)

	wantPut(t, s.x, "d", "", api.OK)
	wantChanges(t, s.x, "d")
	wantDelete(t, s.x, "d", true, api.OK)
	wantChanges(t, s.x)
	wantScan(t, s.x, "", "", every, pairs("a", "1", "b", "", "c", "3"), api.OK)
}

// T3: Delete tells whether the tree had the key.
func TestDelete(t *testing.T) {
	s := having(t, 8, pairs("a", "1", "b", "2"))
	wantDelete(t, s.x, "c", false, api.OK)
	wantDelete(t, s.x, "a", true, api.OK)
	wantDelete(t, s.x, "a", false, api.OK)
	wantChanges(t, s.x, "a")
	wantPut(t, s.x, "a", "1", api.OK)
	wantDelete(t, s.x, "a", true, api.OK)
	wantPut(t, s.x, "c", "3", api.OK)
	wantDelete(t, s.x, "c", true, api.OK)
	wantDelete(t, s.x, "c", false, api.OK)
	wantPut(t, s.x, "b", "two", api.OK)
	wantDelete(t, s.x, "b", true, api.OK)
	wantChanges(t, s.x, "a", "b")
	wantCommit(t, s.x, api.OK)
	wantDelete(t, s.x, "a", false, api.OK)
	wantDelete(t, s.x, "b", false, api.OK)
	wantChanges(t, s.x)
}
