package scope_test

import (
	"math/rand"
	"slices"
	"testing"

	"latchkey/api"
	"latchkey/scope"
)

// noScopes is lists of each kind that is none.
func noScopes() [][]string {
	return [][]string{
		{""}, {"A"}, {"a b"}, {"a", ""}, {"\xff"}, {many(17, "a")},
		f("b a"), f("a a"), f("a b c d e f g h i"), sized(61), sized(64),
	}
}

// scopes is scopes that have all, some and no names in common.
func scopes() [][]string {
	return [][]string{
		nil, {}, f("a"), f("b"), f("a b"), f("b c"), f("a b c"), f("d e f"), f("a aa aaa"), f("aa ab"),
		f("a b c d e f g h"), f("e f g h i j k l"), f("- . 0 9 _ a z"), sized(60), sized(50), {many(16, "a")},
	}
}

// S4: whether each name of the one is the other's.
func TestWithin(t *testing.T) {
	for _, c := range []struct {
		a, b string
		want bool
	}{
		{"", "", true}, {"", "a", true}, {"a", "", false}, {"a", "a", true}, {"a", "b", false},
		{"read", "read write", true}, {"write", "read write", true}, {"read write", "read", false},
		{"a c", "a b c", true}, {"a d", "a b c", false}, {"a b c", "a b c", true}, {"a", "aa", false}, {"aa", "a", false},
		{"a b c d e f g h", "a b c d e f g h", true}, {"a b c d e f g i", "a b c d e f g h", false}, {"0 b", "a b", false},
	} {
		if got := scope.Within(f(c.a), f(c.b)); got != c.want {
			t.Errorf("Within(%q, %q) = %v", c.a, c.b, got)
		}
	}
}

// S5: names of both together, names of both, names of the one alone.
func TestJoinMeetMinus(t *testing.T) {
	for _, c := range []struct{ a, b, join, meet, minus string }{
		{"", "", "", "", ""},
		{"a", "", "a", "", "a"},
		{"", "a", "a", "", ""},
		{"a", "a", "a", "a", ""},
		{"a c", "b", "a b c", "", "a c"},
		{"b", "a c", "a b c", "", "b"},
		{"a b", "b c", "a b c", "b", "a"},
		{"a b c d", "b c", "a b c d", "b c", "a d"},
		{"b c", "a b c d", "a b c d", "b c", ""},
		{"a aa", "aa aaa", "a aa aaa", "aa", "a"},
		{"a b c d e f g h", "a b c d e f g h", "a b c d e f g h", "a b c d e f g h", ""},
		{"a c e g", "b d f h", "a b c d e f g h", "", "a c e g"},
		{"9 _ z", "- . 0 9 a", "- . 0 9 _ a z", "9", "_ z"},
	} {
		a, b := f(c.a), f(c.b)
		if l, e := scope.Join(a, b); !slices.Equal(l, f(c.join)) || e != api.OK {
			t.Errorf("Join(%q, %q) = %q, %d", a, b, l, e)
		}
		if l := scope.Meet(a, b); !slices.Equal(l, f(c.meet)) {
			t.Errorf("Meet(%q, %q) = %q", a, b, l)
		}
		if l := scope.Minus(a, b); !slices.Equal(l, f(c.minus)) {
			t.Errorf("Minus(%q, %q) = %q", a, b, l)
		}
	}
}

// S4 and S5: lists that are no scope, on either side and on both.
func TestTwoOfNoScope(t *testing.T) {
	check := func(a, b []string) {
		t.Helper()
		if scope.Within(a, b) {
			t.Errorf("Within(%q, %q)", a, b)
		}
		if l, e := scope.Join(a, b); len(l) != 0 || e != api.ErrScopeName {
			t.Errorf("Join(%q, %q) = %q, %d", a, b, l, e)
		}
		if l := scope.Meet(a, b); len(l) != 0 {
			t.Errorf("Meet(%q, %q) = %q", a, b, l)
		}
		if l := scope.Minus(a, b); len(l) != 0 {
			t.Errorf("Minus(%q, %q) = %q", a, b, l)
		}
	}
	for _, none := range noScopes() {
		for _, l := range slices.Concat(scopes(), noScopes()) {
			check(none, l)
			check(l, none)
		}
	}
}

// S5: Join of more than eight names, and of a text of more than 60 bytes.
func TestJoinOfTooMany(t *testing.T) {
	check := func(a, b []string, errno api.Errno) {
		t.Helper()
		for range 2 {
			if l, e := scope.Join(a, b); e != errno || errno != api.OK && len(l) != 0 {
				t.Errorf("Join(%q, %q) = %q, %d, want %d", a, b, l, e, errno)
			}
			a, b = b, a
		}
	}
	check(f("a b c d"), f("e f g h"), api.OK)
	check(f("a b c d"), f("e f g h i"), api.ErrScopeMany)
	check(f("a b c d e f g h"), f("i"), api.ErrScopeMany)
	check(f("a b c d e f g h"), f("h"), api.OK)
	check(f("a b c d e f g h"), f("i j k l m n o p"), api.ErrScopeMany)
	for n := 49; n <= 64; n++ {
		errno := api.OK
		if n > 60 {
			errno = api.ErrScopeMany
		}
		check(sized(n)[:2], sized(n)[2:], errno)
		check(sized(n)[:3], sized(n)[1:], errno)
		check(sized(n)[:3], sized(n)[3:], errno)
	}
}

// S4 and S5: each two of lists of all kinds, and some at random.
func TestTwoSome(t *testing.T) {
	all := slices.Concat(scopes(), noScopes())
	for _, a := range all {
		for _, b := range all {
			wantTwo(t, a, b)
		}
	}
	r := rand.New(rand.NewSource(64))
	for range 8000 {
		pool := somePool(r)
		wantTwo(t, someList(r, pool), someList(r, pool))
	}
}
