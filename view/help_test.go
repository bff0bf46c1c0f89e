package view_test

import (
	"iter"
	"slices"
	"strings"
	"testing"

	"latchkey/api"
	"latchkey/disk"
	"latchkey/pager"
	"latchkey/tree"
	"latchkey/view"
)

var (
	n16 = strings.Repeat("n", 16)
	m16 = strings.Repeat("m", 16)
)

// val is a value of so many bytes.
func val(n int) string { return strings.Repeat("v", n) }

// far is a key of 36 bytes that has 34 in common with all others of its kind, so that what parts two of them is long.
func far(n int) string {
	return strings.Repeat("p", 34) + string([]byte{byte('a' + n/26), byte('a' + n%26)})
}

// pairs are keys and values, by turns.
func pairs(texts ...string) []api.Pair {
	var l []api.Pair
	for i := 0; i < len(texts); i += 2 {
		l = append(l, api.Pair{Key: texts[i], Value: texts[i+1]})
	}
	return l
}

// remote are so many pairs of far keys with values of 200 bytes: 75 of them make a tree of three levels.
func remote(n int) []api.Pair {
	var l []api.Pair
	for i := range n {
		l = append(l, api.Pair{Key: far(i), Value: strings.Repeat(string([]byte{byte('a' + i%26)}), 200)})
	}
	return l
}

// store is a disk, its pager, and the tree of that.
type store struct {
	d *disk.Disk
	p *pager.Pager
	x *tree.Tree
}

// began is a store of so many blocks, with nothing in it.
func began(t *testing.T, blocks int) *store {
	t.Helper()
	d, errno := disk.New(blocks)
	wantErrno(t, "New", errno, api.OK)
	wantErrno(t, "Format", pager.Format(d, m16), api.OK)
	return mounted(t, d)
}

// mounted is the store that stands on a disk.
func mounted(t *testing.T, d *disk.Disk) *store {
	t.Helper()
	p, errno := pager.Mount(d)
	wantErrno(t, "Mount", errno, api.OK)
	return &store{d, p, tree.Open(p)}
}

// having is a store of so many blocks in which pairs were committed with the note n16.
func having(t *testing.T, blocks int, l []api.Pair) *store {
	t.Helper()
	s := began(t, blocks)
	for _, pair := range l {
		wantErrno(t, "Put", s.x.Put(pair.Key, pair.Value), api.OK)
	}
	wantErrno(t, "Commit", s.x.Commit(n16), api.OK)
	return s
}

// abd is a store with the pairs of the chapter's examples.
func abd(t *testing.T) *store {
	t.Helper()
	return having(t, 20, pairs("a", "1", "b", "2", "d", "4"))
}

// change puts keys and values, by turns, deletes the keys whose value is -, and commits that.
func (s *store) change(t *testing.T, texts ...string) {
	t.Helper()
	for _, pair := range pairs(texts...) {
		if pair.Value == "-" {
			_, errno := s.x.Delete(pair.Key)
			wantErrno(t, "Delete", errno, api.OK)
			continue
		}
		wantErrno(t, "Put", s.x.Put(pair.Key, pair.Value), api.OK)
	}
	wantErrno(t, "Commit", s.x.Commit(m16), api.OK)
}

// dead lets a disk die; nobody is told of it yet.
func dead(t *testing.T, d *disk.Disk) {
	t.Helper()
	wantErrno(t, "Arm", d.Arm(1), api.OK)
	wantErrno(t, "Sync", d.Sync(), api.ErrDead)
}

func wantErrno(t *testing.T, what string, got, want api.Errno) {
	t.Helper()
	if got != want {
		t.Fatalf("%s: %d, want %d", what, got, want)
	}
}

func wantDoubt(t *testing.T, p *pager.Pager, want bool) {
	t.Helper()
	if p.Doubt() != want {
		t.Fatalf("Doubt: %v, want %v", p.Doubt(), want)
	}
}

func wantHeld(t *testing.T, p *pager.Pager, want int) {
	t.Helper()
	if p.Held() != want {
		t.Fatalf("Held: %d, want %d", p.Held(), want)
	}
}

// taken is a view that is to be had.
func taken(t *testing.T, p *pager.Pager) *view.View {
	t.Helper()
	v, errno := view.Take(p)
	if v == nil || errno != api.OK {
		t.Fatalf("Take: %v, %d", v, errno)
	}
	return v
}

func wantNoTake(t *testing.T, p *pager.Pager, want api.Errno) {
	t.Helper()
	if v, errno := view.Take(p); v != nil || errno != want {
		t.Fatalf("Take: %v, %d; want none, %d", v, errno, want)
	}
}

func wantNote(t *testing.T, v *view.View, want string) {
	t.Helper()
	if s := v.Note(); s != want {
		t.Fatalf("Note: %q, want %q", s, want)
	}
}

func wantGet(t *testing.T, v *view.View, key, value string, there bool, errno api.Errno) {
	t.Helper()
	if s, is, e := v.Get(key); s != value || is != there || e != errno {
		t.Fatalf("Get(%q): %q, %v, %d; want %q, %v, %d", key, s, is, e, value, there, errno)
	}
}

func wantCount(t *testing.T, v *view.View, want int, errno api.Errno) {
	t.Helper()
	if n, e := v.Count(); n != want || e != errno {
		t.Fatalf("Count: %d, %d; want %d, %d", n, e, want, errno)
	}
}

// given are the pairs that a loop comes by.
func given(loop iter.Seq2[string, string]) []api.Pair {
	var l []api.Pair
	for key, value := range loop {
		l = append(l, api.Pair{Key: key, Value: value})
	}
	return l
}

func wantLoop(t *testing.T, what string, loop iter.Seq2[string, string], want []api.Pair) {
	t.Helper()
	if l := given(loop); !slices.Equal(l, want) {
		t.Fatalf("%s: %v, want %v", what, l, want)
	}
}

// wantLoops says what Up gives, and that Down gives it the other way round.
func wantLoops(t *testing.T, v *view.View, from, to string, want []api.Pair) {
	t.Helper()
	wantLoop(t, "Up("+from+", "+to+")", v.Up(from, to), want)
	wantLoop(t, "Down("+from+", "+to+")", v.Down(from, to), turned(want))
}

// turned are pairs the other way round.
func turned(l []api.Pair) []api.Pair {
	l = slices.Clone(l)
	slices.Reverse(l)
	return l
}

func wantSeek(t *testing.T, v *view.View, key string, want bool, errno api.Errno) {
	t.Helper()
	if is, e := v.Seek(key); is != want || e != errno {
		t.Fatalf("Seek(%q): %v, %d; want %v, %d", key, is, e, want, errno)
	}
}

func wantNext(t *testing.T, v *view.View, want bool, errno api.Errno) {
	t.Helper()
	if is, e := v.Next(); is != want || e != errno {
		t.Fatalf("Next: %v, %d; want %v, %d", is, e, want, errno)
	}
}

func wantPrev(t *testing.T, v *view.View, want bool, errno api.Errno) {
	t.Helper()
	if is, e := v.Prev(); is != want || e != errno {
		t.Fatalf("Prev: %v, %d; want %v, %d", is, e, want, errno)
	}
}

// wantHere says on which pair the cursor stands.
func wantHere(t *testing.T, v *view.View, key, value string) {
	t.Helper()
	if pair, e := v.Here(); pair != (api.Pair{Key: key, Value: value}) || e != api.OK {
		t.Fatalf("Here: %v, %d; want %q, %q", pair, e, key, value)
	}
}

// wantNowhere says that the cursor stands nowhere, or which error is ahead of that.
func wantNowhere(t *testing.T, v *view.View, want api.Errno) {
	t.Helper()
	if pair, e := v.Here(); pair != (api.Pair{}) || e != want {
		t.Fatalf("Here: %v, %d; want none, %d", pair, e, want)
	}
}

// wantRefused says that each call over a view answers one error, which is ahead of all others but for that of a key: that may be ahead of it, too.
func wantRefused(t *testing.T, v *view.View, want, key api.Errno) {
	t.Helper()
	wantGet(t, v, "", "", false, key)
	wantGet(t, v, val(37), "", false, key)
	wantGet(t, v, "a", "", false, want)
	wantGet(t, v, "none", "", false, want)
	wantCount(t, v, 0, want)
	wantSeek(t, v, "", false, want)
	wantSeek(t, v, val(99), false, want)
	wantNext(t, v, false, want)
	wantPrev(t, v, false, want)
	wantNowhere(t, v, want)
	wantErrno(t, "Close", v.Close(), want)
	wantLoops(t, v, "", "", nil)
	wantLoops(t, v, "b", "a", nil)
}
