package node_test

import (
	"strings"
	"testing"

	"latchkey/api"
	"latchkey/node"
)

// N4: below, at and above each key.
func TestFind(t *testing.T) {
	n, in := leaf("b", "1", "d", "2", "dd", "3", "f", "4"), inner("b d dd f", 2, 3, 4, 5, 6)
	for _, c := range []struct {
		key       string
		below     int
		is        bool
		kidsPlace int
	}{
		{"", 0, false, 0}, {"a", 0, false, 0}, {"a\xff", 0, false, 0}, {"b", 0, true, 1}, {"b\x00", 1, false, 1}, {"c", 1, false, 1},
		{"d", 1, true, 2}, {"d\x00", 2, false, 2}, {"dc", 2, false, 2}, {"dd", 2, true, 3}, {"ddd", 3, false, 3}, {"e", 3, false, 3},
		{"f", 3, true, 4}, {"ff", 4, false, 4}, {"z", 4, false, 4}, {"\xff", 4, false, 4}, {strings.Repeat("b", 100), 1, false, 1},
	} {
		wantFind(t, n, c.key, c.below, c.is)
		wantFind(t, in, c.key, c.kidsPlace, false)
	}
}

// N4: 0 and false where keys do not rise, wherever that is.
func TestFindKeysThatFall(t *testing.T) {
	for _, keys := range [][]string{{"a", "a"}, {"b", "a"}, {"a", "b", "b"}, {"a", "c", "b"}, {"c", "a", "d"}, {"a", "b", "c", "d", "d"}, {"", ""}, {"ab", "a"}, {"a", "b", ""}} {
		for _, key := range []string{"", "a", "b", "c", "d", "z", "ab"} {
			wantFind(t, keyed(keys, ""), key, 0, false)
			wantFind(t, kidded(keys), key, 0, false)
		}
	}
}

// N4: nodes without keys, and such as have not their form, or keys that may not be but rise.
func TestFindWithoutForm(t *testing.T) {
	for _, key := range []string{"", "a", "\xff"} {
		wantFind(t, api.Node{}, key, 0, false)
		wantFind(t, api.Node{Leaf: true}, key, 0, false)
		wantFind(t, api.Node{Kids: []int{2, 3, 4}}, key, 0, false)
		wantFind(t, api.Node{Leaf: true, Values: []string{"a"}}, key, 0, false)
	}
	wantFind(t, api.Node{Leaf: true, Keys: []string{"a", "b"}}, "b", 1, true)
	wantFind(t, api.Node{Leaf: true, Keys: []string{"a", "b"}, Kids: []int{2, 3, 4}}, "b", 1, true)
	wantFind(t, api.Node{Keys: []string{"a", "b"}}, "b", 2, false)
	wantFind(t, api.Node{Keys: []string{"a", "b"}, Values: []string{"1", "2"}}, "a", 1, false)
	wantFind(t, leaf("", "", "a", ""), "", 0, true)
	wantFind(t, inner("a", 1, 1), "a", 1, false)
	wantFind(t, kidded([]string{"", "a"}), "", 1, false)
	wantFind(t, leaf("a", "", strings.Repeat("b", 100), val(999)), strings.Repeat("b", 100), 1, true)
}

// N5: texts in all orders.
func TestBetween(t *testing.T) {
	for _, c := range [][3]string{
		{"", "", ""}, {"", "a", "a"}, {"", "abc", "a"}, {"", "\x00", "\x00"}, {"", "\x00\x00", "\x00"},
		{"a", "", ""}, {"abc", "", ""},
		{"a", "a", "a"}, {"abc", "abc", "abc"},
		{"a", "ab", "ab"}, {"a", "abc", "ab"}, {"a", "a\x00\x00", "a\x00"}, {"abc", "abcdefg", "abcd"},
		{"ab", "a", "a"}, {"abcd", "ab", "ab"},
		{"a", "b", "b"}, {"a", "bcd", "b"}, {"azz", "b", "b"}, {"azz", "bzz", "b"}, {"az", "b\x00", "b"},
		{"aab", "aac", "aac"}, {"aab", "aacd", "aac"}, {"aabzzz", "aacaaa", "aac"},
		{"b", "a", "a"}, {"b", "azz", "azz"}, {"aac", "aab", "aab"},
		{"\x7f", "\x80\x00", "\x80"}, {"\x80", "\x7f\x00", "\x7f\x00"}, {"\xff", "\xff\xff\xff", "\xff\xff"},
		{"é", "è", "è"}, {"è", "éa", "é"}, {"e", "é", "\xc3"},
	} {
		wantBetween(t, c[0], c[1], c[2])
	}
	long := strings.Repeat("x", 1<<16)
	wantBetween(t, long+"a", long+"bcd", long+"b")
	wantBetween(t, long, long+"bcd", long+"b")
	wantBetween(t, long+"bcd", long, long)
}

// N5: of all short texts: it is a beginning of b, above a if b is, and none that is shorter is.
func TestBetweenOfAll(t *testing.T) {
	all := []string{""}
	for from := 0; len(all[from]) < 4; from++ {
		for _, b := range []string{"\x00", "a", "\xff"} {
			all = append(all, all[from]+b)
		}
	}
	if len(all) != 121 {
		t.Fatalf("%d texts", len(all))
	}
	for _, a := range all {
		for _, b := range all {
			wantBetween(t, a, b, betweenOf(a, b))
			got := node.Between(a, b)
			if a < b && (got <= a || got > b || !strings.HasPrefix(b, got)) {
				t.Errorf("Between(%q, %q): %q", a, b, got)
			}
		}
	}
}
