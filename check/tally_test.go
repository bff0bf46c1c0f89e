package check_test

import (
	"fmt"
	"slices"
	"strings"
	"testing"

	"latchkey/api"
	"latchkey/check"
)

// C2: what has findings has no tally, of whatever kind they are.
func TestNoTally(t *testing.T) {
	l := high().image(13, 2)
	wantTally(t, "three levels", l, 11, 0, 12)
	for kind, spoilt := range map[int][]string{
		1: append([]string{noughts}, l[1:]...),
		2: append(slices.Clone(l[:12]), noughts),
		3: high().with(4, inner(long("p")+" "+long("s")+" "+long("v"), 9, 10, 11, 2)).image(13, 2),
		4: high().with(5, sized("a", 119)).image(13, 2),
		5: high().with(5, leaf("e")).image(13, 2),
		6: high().with(4, leaf("n")).image(13, 2),
	} {
		got, errno := check.Image(spoilt)
		if len(got) != 1 || got[0].Kind != kind || errno != api.OK {
			t.Fatalf("findings: %v, %d; want one of the kind %d", got, errno, kind)
		}
		wantNoTally(t, fmt.Sprint("a finding of the kind ", kind), spoilt)
	}
}

// C2: an image just formatted, of the least and the greatest disk.
func TestTallyOfNothing(t *testing.T) {
	for _, blocks := range []int{8, 9, 100, 4096} {
		l := began(t, blocks).d.Blocks()
		wantFound(t, "just formatted", l)
		wantTally(t, "just formatted", l, 0, blocks-2, 0)
		wantMounts(t, "just formatted", l)
	}
}

// C2: of one leaf its keys, also if that is the last page.
func TestTallyOfOneLeaf(t *testing.T) {
	for _, root := range []int{2, 5, 7} {
		for _, keys := range []string{"a", "a b", "a b c d e f g h"} {
			l := pages{root: leaf(keys)}.image(8, root)
			wantTally(t, "one leaf", l, 1, 5, len(strings.Fields(keys)))
			wantMounts(t, "one leaf", l)
		}
	}
	var texts []string
	for i := range 160 {
		texts = append(texts, string([]byte{byte(i)}), "")
	}
	wantTally(t, "the most keys", pages{2: leafOf(texts...)}.image(8, 2), 1, 5, 160)
}

// C2: the keys of inner nodes are none of them.
func TestTallyOfLevels(t *testing.T) {
	wantTally(t, "two levels", low().image(8, 2), 3, 3, 5)
	wantTally(t, "two levels, of more blocks", low().image(100, 2), 3, 95, 5)
	wantTally(t, "all blocks", low().image(8, 2)[:8], 3, 3, 5)
	wantTally(t, "three levels", high().image(20, 2), 11, 7, 12)
	for _, keys := range []int{1, 3, 70, 300, 2000} {
		s := remote(t, 2500, keys)
		l := s.d.Blocks()
		wantFound(t, "a tree", l)
		wantTally(t, "a tree", l, len(s.p.Reached()), s.p.Free(), keys)
		wantMounts(t, "a tree", l)
	}
}

// C2: of all blocks that there may be.
func TestTallyOfAll(t *testing.T) {
	s := began(t, 4096)
	kids := []int{}
	for n := 2; n < 4094; n += 62 {
		kids = append(kids, n+61)
	}
	p := pages{}
	var top []string
	for i, kid := range kids {
		var keys []string
		var leaves []int
		for j := range 61 {
			key := string([]byte{byte('0' + i), byte('0' + j)})
			p[kid-61+j] = leaf(key + " " + key + "x")
			leaves = append(leaves, kid-61+j)
			if j > 0 {
				keys = append(keys, key)
			}
		}
		p[kid] = inner(strings.Join(keys, " "), leaves...)
		if i > 0 {
			top = append(top, string([]byte{byte('0' + i), '0'}))
		}
	}
	p[4095] = inner(strings.Join(top, " "), kids...)
	l := p.image(4096, 4095)
	wantFound(t, "66 times 61 leaves", l)
	wantTally(t, "66 times 61 leaves", l, 66*62+1, s.p.Free()-66*62-1, 66*61*2)
	wantMounts(t, "66 times 61 leaves", l)
	l[4094] = noughts
	wantFound(t, "and one that nobody comes to", l)
}
