package view_test

import (
	"iter"
	"runtime"
	"slices"
	"strings"
	"sync"
	"testing"
	"unsafe"
	"weak"

	"latchkey/api"
)

// memory is a piece of it: first and last byte.
type memory [2]uintptr

func textMemory(texts ...string) []memory {
	var all []memory
	for _, s := range texts {
		if p := uintptr(unsafe.Pointer(unsafe.StringData(s))); len(s) > 1 { // texts of one byte stand in a table of the language's own
			all = append(all, memory{p, p + uintptr(len(s)) - 1})
		}
	}
	return all
}

// overlap says whether some of these pieces lie over one another.
func overlap(all []memory) bool {
	slices.SortFunc(all, func(a, b memory) int { return int(a[0]) - int(b[0]) })
	for i := range all {
		if i > 0 && all[i-1][1] >= all[i][0] {
			return true
		}
	}
	return false
}

// R2: what comes out is new memory each time, and shares none with what was handed in.
func TestNewMemory(t *testing.T) {
	l := remote(9)
	v := taken(t, having(t, 40, l).p)
	sought := strings.Clone(l[3].Key)
	wantSeek(t, v, sought, true, api.OK)
	var texts []string
	for range 2 {
		value, _, _ := v.Get(sought)
		here, _ := v.Here()
		texts = append(texts, value, here.Key, here.Value, v.Note())
		for _, loop := range both(v, sought, "") {
			for key, value := range loop {
				texts = append(texts, key, value)
			}
		}
	}
	wantErrno(t, "Close", v.Close(), api.OK)
	texts = append(texts, v.Note(), v.Note(), sought)
	if overlap(textMemory(texts...)) {
		t.Fatal("answers share memory")
	}
}

// great are a key that is part of a great text, and a look at whether that is still there.
func great(letter string) (string, weak.Pointer[byte]) {
	whole := strings.Repeat(letter, 1<<16)
	return whole[:20], weak.Make(unsafe.StringData(whole))
}

// Texts that are handed in are not kept, not even by loops that may be gone over again.
func TestTextIsNotKept(t *testing.T) {
	d := strings.Repeat("d", 20)
	v := taken(t, having(t, 16, pairs("a", "1", d, "4")).p)
	var kept []weak.Pointer[byte]
	var loops []iter.Seq2[string, string]
	func() {
		key, w := great("d")
		kept = append(kept, w)
		wantGet(t, v, key, "4", true, api.OK)
		wantSeek(t, v, key, true, api.OK)
		from, w := great("c")
		kept = append(kept, w)
		to, w := great("e")
		kept = append(kept, w)
		loops = append(loops, v.Up(from, to), v.Down(from, to))
	}()
	for i, w := range kept {
		for n := 0; w.Value() != nil; n++ {
			if runtime.GC(); n == 10 {
				t.Fatalf("the text %d is kept", i)
			}
		}
	}
	for _, loop := range loops {
		wantLoop(t, "a loop whose ends are gone", loop, pairs(d, "4"))
	}
	wantHere(t, v, d, "4")
}

// A closed view keeps nothing of its pager; its note is all that it has.
func TestClosedKeepsNothing(t *testing.T) {
	s := abd(t)
	v := taken(t, s.p)
	wantErrno(t, "Close", v.Close(), api.OK)
	kept := weak.Make(s.p)
	s = nil
	for n := 0; kept.Value() != nil; n++ {
		if runtime.GC(); n == 10 {
			t.Fatal("the pager is kept")
		}
	}
	wantNote(t, v, n16)
	wantRefused(t, v, api.ErrViewClosed, api.ErrViewClosed)
}

// R2: views of several disks at the same time know nothing of one another.
func TestAtTheSameTime(t *testing.T) {
	var all sync.WaitGroup
	for n := range 8 {
		all.Go(func() {
			l := remote(10 + n)
			v := taken(t, having(t, 60, l).p)
			for range 20 {
				if got := given(v.Up("", "")); !slices.Equal(got, l) {
					t.Errorf("%d pairs, want %d", len(got), len(l))
				}
			}
		})
	}
	all.Wait()
}

// R2: what a view tells hangs on its own disk alone.
func TestViewsApart(t *testing.T) {
	one, two := abd(t), abd(t)
	v, w := taken(t, one.p), taken(t, two.p)
	for range 3 {
		taken(t, one.p)
	}
	wantNoTake(t, one.p, api.ErrPagerPins)
	wantErrno(t, "Close", taken(t, two.p).Close(), api.OK)
	two.change(t, "a", "-")
	dead(t, one.d)
	wantCount(t, v, 0, api.ErrDead)
	wantCount(t, w, 3, api.OK)
	wantErrno(t, "Close", w.Close(), api.OK)
	wantErrno(t, "Close", v.Close(), api.ErrDead)
}
