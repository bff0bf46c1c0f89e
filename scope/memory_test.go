package scope_test

import (
	"math/rand"
	"runtime"
	"slices"
	"strings"
	"sync"
	"testing"

	"latchkey/api"
	"latchkey/scope"
)

// roomy is a list with spare room behind it, in which something stands, and that memory as a whole.
func roomy(l []string) (list, whole []string) {
	whole = append(slices.Clone(l), "behind", "it", "", "stands")
	return whole[:len(l)], whole
}

// R2: what is handed in stays, and what stands behind it in its memory.
func TestHandedInStays(t *testing.T) {
	r := rand.New(rand.NewSource(70))
	for range 1000 {
		pool := somePool(r)
		a, wholeA := roomy(someList(r, pool))
		b, wholeB := roomy(someList(r, pool))
		wasA, wasB := slices.Clone(wholeA), slices.Clone(wholeB)
		scope.Right(a)
		scope.Print(a)
		scope.Within(a, b)
		scope.Join(a, b)
		scope.Meet(a, b)
		scope.Minus(a, b)
		if !slices.Equal(wholeA, wasA) || !slices.Equal(wholeB, wasB) {
			t.Fatalf("%q and %q became %q and %q", wasA, wasB, wholeA, wholeB)
		}
	}
}

// R2: two pieces of one memory may be handed in, the one in the other's spare room.
func TestHandedInOfOneMemory(t *testing.T) {
	whole := f("a b c d e f g h")
	for from := range len(whole) + 1 {
		for to := range len(whole) + 1 {
			wantTwo(t, whole[:to], whole[from:])
			wantTwo(t, whole[from:], whole[:to])
			wantTwo(t, whole[:to], whole[:from])
		}
	}
	if !slices.Equal(whole, f("a b c d e f g h")) {
		t.Errorf("it became %q", whole)
	}
}

// R2 and the language's rule 7: what comes out is new memory, its spare room and its names too.
func TestNewMemory(t *testing.T) {
	r := rand.New(rand.NewSource(71))
	for range 1000 {
		pool := somePool(r)
		a, _ := roomy(someScope(r, pool))
		b, _ := roomy(someScope(r, pool))
		s := strings.Join(b, " ")
		out := outOf(t, a, b, s)
		if share(out, slices.Concat(listMemory(a), listMemory(b), textMemory(s))) {
			t.Fatalf("answers to %q and %q share memory with what was handed in", a, b)
		}
		if overlap(out) {
			t.Fatalf("answers to %q and %q share memory", a, b)
		}
	}
}

// outOf is the memory of all answers to two scopes and the second one's text, each call made twice.
func outOf(t *testing.T, a, b []string, s string) []memory {
	t.Helper()
	var lists [][]string // all are held until their memory is told, lest one be laid where another one was
	var texts []string
	for range 2 {
		parsed, _ := scope.Parse(s)
		one, _ := scope.Join(a, b)
		other, _ := scope.Join(b, a)
		lists = append(lists, parsed, one, other, scope.Meet(a, b), scope.Minus(a, b), scope.Minus(b, a))
		text, errno := scope.Print(a)
		if errno != api.OK {
			t.Fatalf("Print(%q) = %d", a, errno)
		}
		texts = append(texts, text)
	}
	out := textMemory(texts...)
	for _, l := range lists {
		out = append(out, listMemory(l)...)
	}
	runtime.KeepAlive(texts)
	runtime.KeepAlive(lists)
	return out
}

// Lists that came out may be written into and grown, without another one's being changed.
func TestGrown(t *testing.T) {
	a, whole := roomy(f("a b c"))
	first := scope.Meet(a, a)
	second := scope.Meet(a, a)
	for _, l := range [][]string{first, second} {
		for n := range l {
			l[n] = "x"
		}
		_ = append(l, "grown", "grown", "grown", "grown")
	}
	if third := scope.Meet(a, a); !slices.Equal(third, f("a b c")) {
		t.Errorf("Meet = %q", third)
	}
	if !slices.Equal(whole, []string{"a", "b", "c", "behind", "it", "", "stands"}) {
		t.Errorf("what was handed in became %q", whole)
	}
	first[0] = "y"
	if second[0] != "x" {
		t.Error("two lists that came out have a part in common")
	}
}

// R2: nothing is kept between calls; calls at the same time do not disturb one another.
func TestAtTheSameTime(t *testing.T) {
	var group sync.WaitGroup
	whole := f("a b c d e f g h")
	for n := range 8 {
		group.Go(func() {
			for range 200 {
				wantTwo(t, whole[:n], whole[n/2:])
				wantParsed(t, strings.Join(whole[n:], " "), whole[n:]...)
			}
		})
	}
	group.Wait()
}
