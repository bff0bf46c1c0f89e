package tree_test

import (
	"testing"

	"latchkey/api"
)

// T5: Changes rise, whatever has come of them.
func TestChanges(t *testing.T) {
	s := having(t, 8, pairs("c", "3", "e", "5"))
	wantChanges(t, s.x)
	wantPut(t, s.x, "z", "", api.OK)
	wantPut(t, s.x, "b\xff", "", api.OK)
	wantPut(t, s.x, "b", "", api.OK)
	wantDelete(t, s.x, "e", true, api.OK)
	wantPut(t, s.x, "c", "", api.OK)
	wantPut(t, s.x, "\x00", "", api.OK)
	wantPut(t, s.x, "bb", "", api.OK)
	wantChanges(t, s.x, "\x00", "b", "bb", "b\xff", "c", "e", "z")
	wantDelete(t, s.x, "bb", true, api.OK)
	wantChanges(t, s.x, "\x00", "b", "b\xff", "c", "e", "z")
	s.x.Abort()
	wantChanges(t, s.x)
	wantScan(t, s.x, "", "", every, pairs("c", "3", "e", "5"), api.OK)
	wantPut(t, s.x, "d", "4", api.OK)
	wantChanges(t, s.x, "d")
	wantCommit(t, s.x, api.OK)
	wantChanges(t, s.x)
	s.x.Abort()
	wantScan(t, s.x, "", "", every, pairs("c", "3", "d", "4", "e", "5"), api.OK)
}

// T5: Changes and Abort ask no disk.
func TestChangesAskNoDisk(t *testing.T) {
	s := having(t, 8, pairs("a", "1"))
	wantPut(t, s.x, "b", "2", api.OK)
	dead(t, s.d)
	wantChanges(t, s.x, "b")
	if s.p.Doubt() {
		t.Fatal("Changes has asked the disk")
	}
	s.x.Abort()
	if s.p.Doubt() {
		t.Fatal("Abort has asked the disk")
	}
	wantChanges(t, s.x)
	s = having(t, 8, pairs("a", "1"))
	wantPut(t, s.x, "b", "2", api.OK)
	dead(t, s.d)
	wantHeight(t, s.x, 0, api.ErrDead)
	wantChanges(t, s.x, "b")
	s.x.Abort()
	wantChanges(t, s.x)
}

// T5: Height is that of the tree that stands, whatever is changed.
func TestHeight(t *testing.T) {
	s := began(t, 300)
	wantHeight(t, s.x, 0, api.OK)
	for n, height := range map[int]int{1: 1, 2: 1, 3: 2, 40: 3, 150: 4} {
		s := began(t, 300)
		for _, pair := range remote(n) {
			wantPut(t, s.x, pair.Key, pair.Value, api.OK)
		}
		wantHeight(t, s.x, 0, api.OK)
		wantCommit(t, s.x, api.OK)
		wantHeight(t, s.x, height, api.OK)
		for _, pair := range remote(n) {
			wantDelete(t, s.x, pair.Key, true, api.OK)
		}
		wantHeight(t, s.x, height, api.OK)
		wantCommit(t, s.x, api.OK)
		wantHeight(t, s.x, 0, api.OK)
	}
	dead(t, s.d)
	wantHeight(t, s.x, 0, api.ErrDead)
	if !s.p.Doubt() {
		t.Fatal("the pager is not in doubt")
	}
	wantErrno(t, "Crash", s.d.Crash(nil), api.OK)
	wantHeight(t, s.x, 0, api.ErrDead)
}
