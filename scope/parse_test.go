package scope_test

import (
	"math/rand"
	"slices"
	"strings"
	"testing"

	"latchkey/api"
	"latchkey/scope"
)

// S2: the empty text, and one name.
func TestParseOne(t *testing.T) {
	wantParsed(t, "")
	for n := 1; n <= 16; n++ {
		wantParsed(t, many(n, "a"), many(n, "a"))
	}
	for n := 17; n < 40; n++ {
		wantRefused(t, many(n, "a"), api.ErrScopeName)
	}
	wantParsed(t, "az09-_.", "az09-_.")
}

// S2: names in any order, each as often as you like.
func TestParseAnyOrder(t *testing.T) {
	wantParsed(t, "write read write", "read", "write")
	wantParsed(t, "a a", "a")
	wantParsed(t, "b a", "a", "b")
	wantParsed(t, "aaa aa a aa", "a", "aa", "aaa")
	wantParsed(t, "- _ . 0 a", f("- . 0 _ a")...)
	wantParsed(t, "9 10", "10", "9")
	eight := f("a b c d e f g h")
	r := rand.New(rand.NewSource(62))
	for range 500 {
		said := slices.Concat(eight, eight[:r.Intn(8)])
		r.Shuffle(len(said), func(a, b int) { said[a], said[b] = said[b], said[a] })
		wantParsed(t, strings.Join(said, " "), eight...)
	}
}

// S2: the text that is read may be longer than 60 bytes.
func TestParseLongText(t *testing.T) {
	wantParsed(t, many(5000, "a ")+"a", "a")
	wantParsed(t, many(100, "h g f e d c b a ")+"h", f("a b c d e f g h")...)
	wantParsed(t, many(50, strings.Join(sized(60), " ")+" ")+many(15, "a"), sized(60)...)
	wantRefused(t, many(50, strings.Join(sized(61), " ")+" ")+many(15, "a"), api.ErrScopeMany)
	wantParsed(t, many(4, many(16, "x")+" ")+"y", many(16, "x"), "y")
}

// S2: a piece that is empty is no name, and no other blank parts two.
func TestParseSpaces(t *testing.T) {
	for _, s := range []string{" ", "  ", " a", "a ", " a ", "a  b", "a b ", " a b", "a b  c", "   ", "a   b"} {
		wantRefused(t, s, api.ErrScopeName)
	}
	for _, blank := range []string{"\t", "\n", "\r", "\r\n", "\v", "\f", "\u0085", "\u00a0", "\u2003", "\x00", "+", ",", "%20"} {
		for _, s := range []string{blank, "a" + blank + "b", "a" + blank, blank + "a", "a " + blank + "b", "a" + blank + " b", "a " + blank + " b"} {
			wantRefused(t, s, api.ErrScopeName)
		}
	}
}

// S2: each byte, at each place of a text.
func TestParseEachByte(t *testing.T) {
	for c := range 256 {
		sign := string([]byte{byte(c)})
		if strings.Contains(signs, sign) {
			wantParsed(t, sign, sign)
			wantParsed(t, "zz "+sign+" zz", slices.Compact(slices.Sorted(slices.Values([]string{sign, "zz"})))...)
			wantParsed(t, "zz"+sign, "zz"+sign)
			continue
		}
		for _, s := range []string{sign, sign + "z", "z" + sign, "a " + sign + "z b"} {
			wantRefused(t, s, api.ErrScopeName)
		}
	}
}

// S2: eight unlike names and nine.
func TestParseSoMany(t *testing.T) {
	wantParsed(t, "a b c d e f g h", f("a b c d e f g h")...)
	wantRefused(t, "a b c d e f g h i", api.ErrScopeMany)
	wantRefused(t, "i h g f e d c b a", api.ErrScopeMany)
	wantRefused(t, "a b c d e f g h a b c d e f g h i a", api.ErrScopeMany)
	wantRefused(t, "a aa aaa b bb bbb c cc ccc", api.ErrScopeMany)
	wantParsed(t, "a b c d e f g h a b c d e f g h", f("a b c d e f g h")...)
}

// S2: texts of so many bytes; a name that stands twice counts once.
func TestParseSoLong(t *testing.T) {
	for n := 49; n <= 64; n++ {
		l := sized(n)
		fallen := slices.Clone(l)
		slices.Reverse(fallen)
		for _, s := range []string{strings.Join(l, " "), strings.Join(fallen, " "), strings.Join(slices.Concat(fallen, l), " ")} {
			if n <= 60 {
				wantParsed(t, s, l...)
			} else {
				wantRefused(t, s, api.ErrScopeMany)
			}
		}
	}
}

// S2: where both errors apply, ErrScopeName, wherever the piece stands that is no name.
func TestParseNameGoesAhead(t *testing.T) {
	for _, said := range [][]string{f("a b c d e f g h i"), sized(64), slices.Concat(f("a b c d e f g h i"), sized(64))} {
		for at := range len(said) + 1 {
			for _, piece := range []string{"", "!", "A", many(17, "a"), "\xff"} {
				s := strings.Join(slices.Insert(slices.Clone(said), at, piece), " ")
				wantRefused(t, s, api.ErrScopeName)
			}
		}
	}
}

// S2: texts drawn at random.
func TestParseSome(t *testing.T) {
	r := rand.New(rand.NewSource(63))
	seen := map[api.Errno]int{}
	for range 10000 {
		s := someText(r, somePool(r))
		want, errno := parsed(s)
		seen[errno]++
		if l, e := scope.Parse(s); !slices.Equal(l, want) || e != errno {
			t.Fatalf("Parse(%q) = %q, %d, want %q, %d", s, l, e, want, errno)
		}
	}
	if seen[api.OK] < 1000 || seen[api.ErrScopeName] < 1000 || seen[api.ErrScopeMany] < 300 {
		t.Errorf("the texts are too much alike: %v", seen)
	}
}

// R2: the same text is told the same way, however a map is gone through.
func TestParseAgain(t *testing.T) {
	for range 300 {
		wantParsed(t, "h c f a e g b d", f("a b c d e f g h")...)
	}
}
