package view_test

import (
	"fmt"
	"strings"
	"testing"

	"latchkey/api"
)

// V2: keys of 0, 1, 36 and 37 bytes.
func TestGetEdges(t *testing.T) {
	long := strings.Repeat("k", 36)
	s := having(t, 20, pairs("a", "1", "b", "", long, val(200), "\x00", "zero", "\xff\xff", "high"))
	v := taken(t, s.p)
	wantGet(t, v, "", "", false, api.ErrTreeKey)
	wantGet(t, v, "a", "1", true, api.OK)
	wantGet(t, v, "b", "", true, api.OK)
	wantGet(t, v, "c", "", false, api.OK)
	wantGet(t, v, "\x00", "zero", true, api.OK)
	wantGet(t, v, "\xff\xff", "high", true, api.OK)
	wantGet(t, v, "\xff", "", false, api.OK)
	wantGet(t, v, long, val(200), true, api.OK)
	wantGet(t, v, long[:35], "", false, api.OK)
	wantGet(t, v, long[:35]+"l", "", false, api.OK)
	wantGet(t, v, long+"k", "", false, api.ErrTreeKey)
	wantGet(t, v, strings.Repeat("k", 1000), "", false, api.ErrTreeKey)
}

// V2: keys that were changed, deleted and added behind a view.
func TestGetBehind(t *testing.T) {
	s := abd(t)
	v := taken(t, s.p)
	s.change(t, "a", "9", "b", "-", "c", "3")
	later := taken(t, s.p)
	s.change(t, "a", "-", "b", "7", "c", "-", "d", "-")
	for range 2 {
		wantGet(t, v, "a", "1", true, api.OK)
		wantGet(t, v, "b", "2", true, api.OK)
		wantGet(t, v, "c", "", false, api.OK)
		wantGet(t, v, "d", "4", true, api.OK)
		wantGet(t, later, "a", "9", true, api.OK)
		wantGet(t, later, "b", "", false, api.OK)
		wantGet(t, later, "c", "3", true, api.OK)
		wantGet(t, later, "d", "4", true, api.OK)
		wantCount(t, v, 3, api.OK)
		wantCount(t, later, 3, api.OK)
		wantErrno(t, "Put", s.x.Put("a", "not committed"), api.OK)
	}
	wantErrno(t, "Close", v.Close(), api.OK)
	wantCount(t, later, 3, api.OK)
	wantGet(t, later, "a", "9", true, api.OK)
}

// V2: where several errors apply: ErrViewClosed, then ErrTreeKey, then ErrDead.
func TestGetOrder(t *testing.T) {
	s := abd(t)
	v, closed := taken(t, s.p), taken(t, s.p)
	wantErrno(t, "Close", closed.Close(), api.OK)
	wantGet(t, closed, "", "", false, api.ErrViewClosed)
	wantGet(t, closed, val(37), "", false, api.ErrViewClosed)
	dead(t, s.d)
	wantGet(t, closed, "", "", false, api.ErrViewClosed)
	wantGet(t, v, "", "", false, api.ErrTreeKey)
	wantGet(t, v, val(37), "", false, api.ErrTreeKey)
	wantDoubt(t, s.p, false)
	wantGet(t, v, val(36), "", false, api.ErrDead)
	wantDoubt(t, s.p, true)
	wantGet(t, v, "", "", false, api.ErrTreeKey)
	wantCount(t, closed, 0, api.ErrViewClosed)
	wantCount(t, v, 0, api.ErrDead)
}

// V2: Count of the empty tree, of one leaf, of several levels.
func TestCount(t *testing.T) {
	for n, height := range map[int]int{0: 0, 1: 1, 2: 1, 3: 2, 40: 3, 150: 4} {
		s := having(t, 300, remote(n))
		if h, errno := s.x.Height(); h != height || errno != api.OK {
			t.Fatalf("Height: %d, %d", h, errno)
		}
		v := taken(t, s.p)
		wantCount(t, v, n, api.OK)
		for _, pair := range remote(n) {
			_, errno := s.x.Delete(pair.Key)
			wantErrno(t, "Delete", errno, api.OK)
		}
		wantErrno(t, "Commit", s.x.Commit(m16), api.OK)
		wantCount(t, v, n, api.OK)
		wantCount(t, taken(t, s.p), 0, api.OK)
		wantLoops(t, v, "", "", remote(n))
	}
}

// V2: Count of more pairs than a tree tells at once.
func TestCountMany(t *testing.T) {
	t.Parallel()
	s := began(t, 1000)
	at := 0
	for _, n := range []int{4095, 4096, 4097, 8192, 8193} {
		for ; at < n; at++ {
			wantErrno(t, "Put", s.x.Put(fmt.Sprintf("%04x", at), ""), api.OK)
		}
		wantErrno(t, "Commit", s.x.Commit(m16), api.OK)
		v := taken(t, s.p)
		wantCount(t, v, n, api.OK)
		wantErrno(t, "Close", v.Close(), api.OK)
	}
	v := taken(t, s.p)
	at = 0
	for key := range v.Up("", "") {
		if key != fmt.Sprintf("%04x", at) {
			t.Fatalf("%q at %d", key, at)
		}
		at++
	}
	for key := range v.Down("", "") {
		if at--; key != fmt.Sprintf("%04x", at) {
			t.Fatalf("%q at %d", key, at)
		}
	}
	if at != 0 {
		t.Fatalf("%d pairs more one way than the other", at)
	}
}
