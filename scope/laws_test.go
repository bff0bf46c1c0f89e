package scope_test

import (
	"math/rand"
	"slices"
	"strings"
	"testing"

	"latchkey/api"
	"latchkey/scope"
)

// eachTwo goes through pairs of scopes: those that the tests name, and some at random.
func eachTwo(seed int64, do func(a, b []string)) {
	for _, a := range scopes() {
		for _, b := range scopes() {
			do(a, b)
		}
	}
	r := rand.New(rand.NewSource(seed))
	for range 4000 {
		pool := somePool(r)
		do(someScope(r, pool), someScope(r, pool))
	}
}

// S6: Parse of Print is the scope.
func TestLawParseOfPrint(t *testing.T) {
	eachTwo(65, func(a, _ []string) {
		s, errno := scope.Print(a)
		if errno != api.OK {
			t.Fatalf("Print(%q) = %d", a, errno)
		}
		if l, e := scope.Parse(s); !slices.Equal(l, a) || e != api.OK {
			t.Fatalf("Parse(%q) = %q, %d, want %q", s, l, e, a)
		}
	})
}

// P6: what Parse tells is a scope that is printed in one way; all texts of the same names are read as the same one.
func TestLawPrintOfParse(t *testing.T) {
	r := rand.New(rand.NewSource(66))
	for range 4000 {
		said := someNames(r, somePool(r))
		l, errno := scope.Parse(strings.Join(said, " "))
		if errno != api.OK {
			continue
		}
		s, e := scope.Print(l)
		if e != api.OK || !scope.Right(l) || s != strings.Join(l, " ") {
			t.Fatalf("Print(%q) = %q, %d", l, s, e)
		}
		r.Shuffle(len(said), func(a, b int) { said[a], said[b] = said[b], said[a] })
		if again, e := scope.Parse(strings.Join(said, " ")); !slices.Equal(again, l) || e != api.OK {
			t.Fatalf("Parse of %q = %q, %d, want %q", said, again, e, l)
		}
	}
}

// S6: what is Met or Minus is a scope; both joined are what was there.
func TestLawMeetAndMinus(t *testing.T) {
	eachTwo(67, func(a, b []string) {
		both, left := scope.Meet(a, b), scope.Minus(a, b)
		if !scope.Right(both) || !scope.Right(left) {
			t.Fatalf("of %q and %q: %q and %q", a, b, both, left)
		}
		if l, e := scope.Join(both, left); !slices.Equal(l, a) || e != api.OK {
			t.Fatalf("Join(%q, %q) = %q, %d, want %q", both, left, l, e, a)
		}
	})
}

// S6: Within is true just if Minus has no names.
func TestLawWithin(t *testing.T) {
	seen := map[bool]int{}
	eachTwo(68, func(a, b []string) {
		got := scope.Within(a, b)
		seen[got]++
		if left := scope.Minus(a, b); got != (len(left) == 0) {
			t.Fatalf("Within(%q, %q) = %v, Minus %q", a, b, got, left)
		}
		if !scope.Within(a, a) || !scope.Within(scope.Meet(a, b), b) || !scope.Within(scope.Minus(a, b), a) {
			t.Fatalf("of %q and %q", a, b)
		}
	})
	if seen[true] < 500 || seen[false] < 500 {
		t.Errorf("the scopes are too much alike: %v", seen)
	}
}

// S6: Join does not hang on the order of the two, nor does Meet.
func TestLawOrder(t *testing.T) {
	eachTwo(69, func(a, b []string) {
		one, e := scope.Join(a, b)
		other, otherE := scope.Join(b, a)
		if !slices.Equal(one, other) || e != otherE {
			t.Fatalf("Join of %q and %q: %q, %d and %q, %d", a, b, one, e, other, otherE)
		}
		if !slices.Equal(scope.Meet(a, b), scope.Meet(b, a)) {
			t.Fatalf("Meet of %q and %q", a, b)
		}
	})
}

// The chapter's examples.
func TestExamples(t *testing.T) {
	wantParsed(t, "write read write", "read", "write")
	wantParsed(t, "")
	wantRefused(t, "a  b", api.ErrScopeName)
	wantRefused(t, " a", api.ErrScopeName)
	wantRefused(t, "A", api.ErrScopeName)
	wantRefused(t, "a b c d e f g h i", api.ErrScopeMany)
	wantParsed(t, many(30, "a b c d e f g h ")+"a b c d e f g h", f("a b c d e f g h")...)
	if s, e := scope.Print(f("read write")); s != "read write" || e != api.OK {
		t.Errorf("Print = %q, %d", s, e)
	}
	wantList(t, f("write read"), api.ErrScopeName)
	wantList(t, sized(63), api.ErrScopeMany)
	if !scope.Within(f("read"), f("read write")) || scope.Within(f("read write"), f("read")) || !scope.Within(nil, nil) || scope.Within(f("b a"), f("a b")) {
		t.Error("Within")
	}
	if l, e := scope.Join(f("a c"), f("b")); !slices.Equal(l, f("a b c")) || e != api.OK {
		t.Errorf("Join = %q, %d", l, e)
	}
	if l := scope.Meet(f("a b"), f("b c")); !slices.Equal(l, f("b")) {
		t.Errorf("Meet = %q", l)
	}
	if l := scope.Minus(f("a b"), f("b c")); !slices.Equal(l, f("a")) {
		t.Errorf("Minus = %q", l)
	}
}
