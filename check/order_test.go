package check_test

import (
	"strings"
	"testing"
)

// C1: a key of a leaf may be the lower bound, not the upper one.
func TestLeafBounds(t *testing.T) {
	d, g := long("d"), long("g")
	for keys, right := range map[string]bool{
		d:              true,
		d[:35]:         false,
		d[:35] + ",":   false,
		d[:35] + ".":   true,
		"e " + g:       false,
		g:              false,
		g[:35]:         true,
		g[:35] + ",":   true,
		d + " e f":     true,
		"a e f":        false,
		"e f z":        false,
		"a z":          false,
		"e":            true,
		"\x01":         false,
		"\xff":         false,
		d + " " + "fz": true,
	} {
		want := []int{5, 6}
		if right {
			want = nil
		}
		wantFound(t, "between d and g: "+keys, high().with(6, leaf(keys)).image(13, 2), want...)
	}
}

// C1: a key of an inner node is neither its lower bound nor its upper one.
func TestInnerBounds(t *testing.T) {
	// Three levels of inner nodes: the page 4 has the bounds m and x.
	tree := pages{
		2: inner("m x", 3, 4, 14),
		3: high()[3], 14: inner(long("xb")+" "+long("y")+" "+long("z"), 15, 16, 17, 18),
		5: leaf("a"), 6: leaf("e f"), 7: leaf("h"), 8: leaf("k l"),
		15: leaf("xa"), 16: leaf("xc"), 17: leaf("ya"), 18: leaf("za"),
	}
	m := strings.Repeat("m", 36)
	for _, c := range []struct {
		name  string
		keys  [3]string
		kids  [4]string
		found []int
	}{
		{"within", [3]string{long("n"), long("p"), long("q")}, [4]string{"m", "o", "pa", "r"}, nil},
		{"just above the lower bound", [3]string{"m" + strings.Repeat("\x00", 35), m, long("q")}, [4]string{"m", "ma", "o", "r"}, nil},
		{"the lower bound", [3]string{"m", m, long("q")}, [4]string{"l", "m", "o", "r"}, []int{4, 4, 5, 4, 5, 9}},
		{"below the lower bound", [3]string{long("l"), m, long("q")}, [4]string{"m", "m", "o", "r"}, []int{5, 4, 5, 9}},
		{"just below the upper bound", [3]string{long("n"), long("p"), "w" + strings.Repeat("\xff", 35)}, [4]string{"m", "o", "pa", "w" + strings.Repeat("\xff", 35)}, nil},
		{"the upper bound", [3]string{long("n"), long("p"), "x"}, [4]string{"m", "o", "pa", "w"}, []int{4, 4, 5, 4, 5, 12}},
		{"above the upper bound", [3]string{long("n"), long("p"), long("x")}, [4]string{"m", "o", "pa", "w"}, []int{5, 4, 5, 12}},
		{"far above", [3]string{long("n"), long("y"), long("z")}, [4]string{"m", "o", "yb", "w"}, []int{5, 4, 5, 12}},
	} {
		p := tree.with(4, inner(strings.Join(c.keys[:], " "), 9, 10, 11, 12))
		for i, key := range c.kids {
			p[9+i] = leaf(key)
		}
		wantFound(t, c.name, p.image(20, 2), c.found...)
	}
}

// C1: first and last kids have a bound of what is above them, over several levels; the outermost ones have none.
func TestBoundsFromAbove(t *testing.T) {
	for page, keys := range map[int]map[string]bool{
		5:  {"\x00": true, "c": true, long("d")[:35]: true, long("d"): false, "l": false, "z": false},
		8:  {long("j"): true, "i": false, "lz": true, "m": false, "m\x00": false, "n": false},
		9:  {"m": true, "lz": false, "a": false, long("p"): false, "o": true},
		12: {long("v"): true, "u": false, "\xff": true, strings.Repeat("\xff", 36): true, "m": false},
	} {
		for key, right := range keys {
			want := []int{5, page}
			if right {
				want = nil
			}
			wantFound(t, "alone on an outer leaf: "+key, high().with(page, leaf(key)).image(13, 2), want...)
		}
	}
}

// C1: each leaf and each inner node that has a key out of its bounds, once each; what is behind is looked at, by the bounds as they stand.
func TestOrderSeveral(t *testing.T) {
	p := high()
	p[3], p[4] = p[4], p[3]
	wantFound(t, "two inner pages in the place of one another", p.image(13, 2), 5, 3, 5, 4, 5, 5, 5, 12)
	p = high()
	p[5], p[12] = p[12], p[5]
	wantFound(t, "two leaves in the place of one another", p.image(13, 2), 5, 5, 5, 12)
	wantFound(t, "two keys of one leaf", low().with(3, leaf("a x y z")).image(8, 2), 5, 3)
	// The page 9 has the bounds x and p: between these there is no key at all.
	p = high().with(2, inner(long("x"), 3, 4))
	for _, key := range []string{"a", "n", "q", "y"} {
		wantFound(t, "bounds that leave no room", p.with(9, leaf(key)).image(13, 2), 5, 4, 5, 9)
	}
	wantFound(t, "a key of both", low().with(3, leaf("a m")).image(8, 2), 5, 3)
}

// C1: the root has no bounds.
func TestRootHasNoBounds(t *testing.T) {
	wantFound(t, "a leaf", pages{2: leaf("\x00 \xff")}.image(8, 2))
	wantFound(t, "a leaf of the least and the greatest key", pages{2: leafOf("\x00", "", strings.Repeat("\xff", 36), "")}.image(8, 2))
	wantFound(t, "an inner", pages{2: inner("\x00 "+strings.Repeat("\xff", 36), 3, 4, 5), 4: leaf("\x00 a \xff"), 5: leaf(strings.Repeat("\xff", 36))}.image(8, 2), 2, 3)
}
