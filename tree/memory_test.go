package tree_test

import (
	"runtime"
	"slices"
	"strings"
	"sync"
	"testing"
	"unsafe"
	"weak"

	"latchkey/api"
	"latchkey/tree"
)

// memory is a piece of it: first and last byte.
type memory [2]uintptr

func textMemory(texts ...string) []memory {
	var all []memory
	for _, s := range texts {
		if p := uintptr(unsafe.Pointer(unsafe.StringData(s))); len(s) > 1 { // texts of one byte stand in a table of the language's own
			all = append(all, memory{p, p + uintptr(len(s)) - 1})
		}
	}
	return all
}

// listMemory is where a list stands, with its spare room.
func listMemory[T any](l []T) []memory {
	var zero T
	size := uintptr(cap(l)) * unsafe.Sizeof(zero)
	if size == 0 {
		return nil
	}
	p := uintptr(unsafe.Pointer(unsafe.SliceData(l)))
	return []memory{{p, p + size - 1}}
}

// pairMemory is where pairs and their texts stand.
func pairMemory(l []api.Pair) []memory {
	all := listMemory(l)
	for _, pair := range l {
		all = append(all, textMemory(pair.Key, pair.Value)...)
	}
	return all
}

// overlap says whether some of these pieces lie over one another.
func overlap(all []memory) bool {
	slices.SortFunc(all, func(a, b memory) int { return int(a[0]) - int(b[0]) })
	for i := range all {
		if i > 0 && all[i-1][1] >= all[i][0] {
			return true
		}
	}
	return false
}

// R2: what comes out is new memory each time, and shares none with what was handed in.
func TestNewMemory(t *testing.T) {
	for _, committed := range []bool{false, true} {
		s := began(t, 16)
		var all []memory
		for _, pair := range stout(6) {
			k, v := strings.Clone(pair.Key), strings.Clone(pair.Value)
			wantPut(t, s.x, k, v, api.OK)
			all = append(all, textMemory(k, v)...)
		}
		if committed {
			wantCommit(t, s.x, api.OK)
		}
		for range 2 {
			value, _, _ := s.x.Get("Bb")
			old, _, _ := tree.At(s.p, s.p.Root()).Get("Bb")
			l, _ := s.x.Scan("", "", every)
			up, _ := tree.At(s.p, s.p.Root()).Scan("", "", every)
			down, _ := tree.At(s.p, s.p.Root()).Back("", "", every)
			keys := s.x.Changes()
			all = slices.Concat(all, textMemory(value, old), pairMemory(l), pairMemory(up), pairMemory(down), listMemory(keys), textMemory(keys...))
			if len(l) != 6 || committed != (len(up) == 6) || committed == (len(keys) == 6) {
				t.Fatalf("%d, %d, %d", len(l), len(up), len(keys))
			}
		}
		if overlap(all) {
			t.Fatal("answers share memory")
		}
	}
}

// T9, R2: lists that came out are written over, and change nothing.
func TestAnswersAreTheAskers(t *testing.T) {
	s := having(t, 40, stout(8))
	for _, pair := range stout(12)[6:] {
		wantPut(t, s.x, pair.Key, "another", api.OK)
	}
	want, _ := s.x.Scan("", "", every)
	want = slices.Clone(want)
	keys := slices.Clone(s.x.Changes())
	scribble := func(l []api.Pair) {
		for i := range l[:cap(l)] {
			l[:cap(l)][i] = api.Pair{Key: "scribbled", Value: "over"}
		}
		_ = append(l, api.Pair{Key: "more"})
	}
	for range 3 {
		l, _ := s.x.Scan("", "", every)
		scribble(l)
		l, _ = s.x.Scan("Db", "Hb", 3)
		scribble(l)
		l, _ = tree.At(s.p, s.p.Root()).Scan("", "", every)
		scribble(l)
		l, _ = tree.At(s.p, s.p.Root()).Back("", "", every)
		scribble(l)
		changes := s.x.Changes()
		for i := range changes[:cap(changes)] {
			changes[:cap(changes)][i] = "scribbled"
		}
		_ = append(changes, "more")
		wantScan(t, s.x, "", "", every, want, api.OK)
		wantChanges(t, s.x, keys...)
		wantScan(t, tree.At(s.p, s.p.Root()), "", "", every, stout(8), api.OK)
	}
	wantCommit(t, s.x, api.OK)
	wantScan(t, mounted(t, s.d).x, "", "", every, want, api.OK)
}

// great is a key and a value that are parts of a great text, and a look at whether that is still there.
func great(letter string) (string, string, weak.Pointer[byte]) {
	whole := strings.Repeat(letter, 1<<16)
	return whole[:20], whole[100:200], weak.Make(unsafe.StringData(whole))
}

// Texts that are handed in are not kept.
func TestTextIsNotKept(t *testing.T) {
	s := having(t, 16, pairs(strings.Repeat("d", 20), "4"))
	var kept []weak.Pointer[byte]
	note := func(w weak.Pointer[byte]) { kept = append(kept, w) }
	func() {
		k, v, w := great("a")
		note(w)
		wantPut(t, s.x, k, v, api.OK)
		k, v, w = great("b")
		note(w)
		wantPut(t, s.x, k, "", api.OK)
		wantPut(t, s.x, k, v, api.OK)
		k, _, w = great("d")
		note(w)
		wantDelete(t, s.x, k, true, api.OK)
		k, v, w = great("c")
		note(w)
		s.x.Get(k)
		s.x.Delete(k)
		s.x.Scan(k, v, 5)
		tree.At(s.p, s.p.Root()).Back(k, v, 5)
	}()
	for i, w := range kept {
		for n := 0; w.Value() != nil; n++ {
			if runtime.GC(); n == 10 {
				t.Fatalf("the text %d is kept", i)
			}
		}
	}
	wantChanges(t, s.x, strings.Repeat("a", 20), strings.Repeat("b", 20), strings.Repeat("d", 20))
}

// R2: trees of several disks at the same time know nothing of one another.
func TestAtTheSameTime(t *testing.T) {
	want := having(t, 60, stout(20)).d.Blocks()
	var all sync.WaitGroup
	for range 8 {
		all.Go(func() {
			s := having(t, 60, stout(20))
			if !slices.Equal(s.d.Blocks(), want) {
				t.Error("another tree has come of the same changes")
			}
		})
	}
	all.Wait()
}

// R2: what a tree answers hangs on its own disk alone.
func TestTreesApart(t *testing.T) {
	one, two := abc(t), abc(t)
	wantPut(t, one.x, "z", "", api.OK)
	wantDelete(t, two.x, "a", true, api.OK)
	wantChanges(t, one.x, "z")
	wantChanges(t, two.x, "a")
	dead(t, one.d)
	wantHeight(t, one.x, 0, api.ErrDead)
	wantHeight(t, two.x, 2, api.OK)
	one.x.Abort()
	wantChanges(t, two.x, "a")
	wantCommit(t, two.x, api.OK)
}
