package tree_test

import (
	"strings"
	"testing"

	"latchkey/api"
	"latchkey/tree"
)

// The chapter's first example.
func TestExampleOne(t *testing.T) {
	s := began(t, 8)
	wantPut(t, s.x, "b", "2", api.OK)
	wantPut(t, s.x, "a", "1", api.OK)
	wantChanges(t, s.x, "a", "b")
	wantGet(t, s.x, "a", "1", true, api.OK)
	wantHeight(t, s.x, 0, api.OK)
	wantErrno(t, "Commit", s.x.Commit(strings.Repeat("\x00", 16)), api.OK)
	wantPages(t, s.p, 2, 2)
	wantNode(t, s.p, 2, leaf("a", "1", "b", "2"))
	wantHeight(t, s.x, 1, api.OK)
	wantPut(t, s.x, "a", "1", api.OK)
	wantChanges(t, s.x)
	wantDelete(t, s.x, "b", true, api.OK)
	wantCommit(t, s.x, api.OK)
	wantPages(t, s.p, 3, 3)
	wantNode(t, s.p, 3, leaf("a", "1"))
	wantDelete(t, s.x, "a", true, api.OK)
	acts := s.d.Acts()
	wantCommit(t, s.x, api.OK)
	wantPages(t, s.p, 0)
	if s.d.Acts() != acts+3 || s.p.Free() != 6 {
		t.Fatalf("%d acts, %d pages are free", s.d.Acts()-acts, s.p.Free())
	}
}

// The second and the third.
func TestExampleTwo(t *testing.T) {
	s := began(t, 16)
	for _, k := range []string{"a", "b", "c"} {
		wantPut(t, s.x, k, val(200), api.OK)
	}
	wantCommit(t, s.x, api.OK)
	wantPages(t, s.p, 4, 2, 3, 4)
	wantNode(t, s.p, 2, leaf("a", val(200)))
	wantNode(t, s.p, 3, leaf("b", val(200), "c", val(200)))
	wantNode(t, s.p, 4, inner("b", 2, 3))
	wantScan(t, s.x, "b", "", 1, pairs("b", val(200)), api.OK)
	wantBack(t, tree.At(s.p, 4), "c", "", 9, pairs("b", val(200), "a", val(200)), api.OK)

	wantDelete(t, s.x, "a", true, api.OK)
	wantCommit(t, s.x, api.OK)
	wantPages(t, s.p, 5, 5)
	wantNode(t, s.p, 5, leaf("b", val(200), "c", val(200)))
	wantHeight(t, s.x, 1, api.OK)
}
