package scope_test

import (
	"math/rand"
	"strings"
	"testing"

	"latchkey/api"
)

// S1 and S3: how many there are.
func TestListOfSoMany(t *testing.T) {
	all := f("a b c d e f g h i j")
	for n := range len(all) + 1 {
		errno := api.OK
		if n > 8 {
			errno = api.ErrScopeMany
		}
		wantList(t, all[:n], errno)
	}
	wantList(t, nil, api.OK)
	wantList(t, []string{}, api.OK)
	wantList(t, strings.Split(many(1000, "a")+many(1000, " b"), " "), api.ErrScopeName)
}

// S1 and S3: how long a name is.
func TestListOfSoLong(t *testing.T) {
	for n := range 40 {
		errno := api.OK
		if n < 1 || n > 16 {
			errno = api.ErrScopeName
		}
		wantList(t, []string{many(n, "a")}, errno)
		wantList(t, []string{"-", many(n, "a")}, errno)
		wantList(t, []string{many(n, "a"), "b"}, errno)
	}
	wantList(t, []string{many(100000, "a")}, api.ErrScopeName)
}

// S1 and S3: each byte, alone, at each place of a name, and as the only one that is another.
func TestListOfEachByte(t *testing.T) {
	for c := range 256 {
		sign := string([]byte{byte(c)})
		errno := api.ErrScopeName
		if strings.Contains(signs, sign) {
			errno = api.OK
		}
		wantList(t, []string{sign}, errno)
		wantList(t, []string{sign + "a"}, errno)
		wantList(t, []string{"a" + sign}, errno)
		wantList(t, []string{"ab" + sign + "cd"}, errno)
		wantList(t, []string{many(15, "z") + sign}, errno)
		wantList(t, []string{sign + many(15, "z")}, errno)
		wantList(t, []string{many(16, "z") + sign}, api.ErrScopeName)
		wantList(t, []string{"a", "b" + sign, "c"}, errno)
	}
}

// S1 and S3: the neighbours of what may stand, by name.
func TestListOfNeighbours(t *testing.T) {
	for _, name := range f("a z 0 9 - _ . az09-_. -. __ 0a a0") {
		wantList(t, []string{name}, api.OK)
	}
	for _, name := range []string{"`", "{", "/", ":", ",", "^", "A", "Z", "@", "[", " ", "\t", "\n", "\x00", "\x7f", "\x80", "\xff", "é", "aé", "ａ", "a b", " a", "a ", "a\n", "\na"} {
		wantList(t, []string{name}, api.ErrScopeName)
	}
}

// S1 and S3: names rise by their bytes, a beginning ahead of what goes on from it.
func TestListRises(t *testing.T) {
	for _, s := range []string{"a b", "a aa", "a aa aaa aaaa", "a a-", "a a0", "a- a. a0 a_ aa", "- . 0 9 _ a z", "10 9", "read write", "aa ab b"} {
		l := f(s)
		wantList(t, l, api.OK)
		for n := range len(l) - 1 {
			l[n], l[n+1] = l[n+1], l[n]
			wantList(t, l, api.ErrScopeName)
			l[n], l[n+1] = l[n+1], l[n]
		}
	}
	for _, s := range []string{"a a", "aa aa", "a b b", "a a b", "a b c b", "b a c", "a c b", "a b a", "c b a", "aa a", "9 10"} {
		wantList(t, f(s), api.ErrScopeName)
	}
}

// S1 and S3: how long the text is.
func TestListOfSoLongAText(t *testing.T) {
	for n := 49; n <= 64; n++ {
		errno := api.OK
		if n > 60 {
			errno = api.ErrScopeMany
		}
		l := sized(n)
		if len(strings.Join(l, " ")) != n {
			t.Fatalf("the test is wrong: %q", l)
		}
		wantList(t, l, errno)
	}
	// Eight names of 60 bytes and of 61 bytes, which have seven spaces between them.
	eight := f("aaaaaaa bbbbbbb ccccccc ddddddd eeeeeee ffffff gggggg hhhhhh")
	wantList(t, eight, api.OK)
	eight[7] += "h"
	wantList(t, eight, api.ErrScopeMany)
	wantList(t, []string{many(15, "a"), many(15, "b"), many(15, "c"), many(15, "d")}, api.ErrScopeMany)
	wantList(t, []string{many(16, "a"), many(16, "b"), many(16, "c")}, api.OK)
	wantList(t, []string{many(16, "a"), many(16, "b"), many(16, "c"), many(16, "d")}, api.ErrScopeMany)
}

// S3: where both errors apply, ErrScopeName.
func TestListNameGoesAhead(t *testing.T) {
	nine := f("a b c d e f g h i")
	for n := range nine {
		for _, name := range []string{"", "A", "a a", many(17, "a"), "\xff"} {
			l := f("a b c d e f g h i")
			l[n] = name
			wantList(t, l, api.ErrScopeName)
		}
	}
	wantList(t, f("i h g f e d c b a"), api.ErrScopeName)
	wantList(t, f("a b c d e f g h h"), api.ErrScopeName)
	wantList(t, f("a a b c d e f g h i"), api.ErrScopeName)
	for n := range 4 {
		l := sized(64)
		l[n] = "!" + l[n][1:]
		wantList(t, l, api.ErrScopeName)
	}
	l := sized(64)
	l[2], l[3] = l[3], l[2]
	wantList(t, l, api.ErrScopeName)
}

// S1 and S3: lists drawn at random.
func TestListSome(t *testing.T) {
	r := rand.New(rand.NewSource(61))
	seen := map[api.Errno]int{}
	for range 10000 {
		l := someList(r, somePool(r))
		_, errno := printed(l)
		seen[errno]++
		wantList(t, l, errno)
	}
	if seen[api.OK] < 1000 || seen[api.ErrScopeName] < 1000 || seen[api.ErrScopeMany] < 300 {
		t.Errorf("the lists are too much alike: %v", seen)
	}
}
