package check_test

import (
	"fmt"
	"slices"
	"testing"

	"latchkey/api"
)

// of is a page with another Number.
func of(p api.Page, number int) api.Page {
	p.Number = number
	return p
}

// born is a page with another Birth.
func born(p api.Page, birth int) api.Page {
	p.Birth = birth
	return p
}

// C1: the root is not right: that is all that is found.
func TestRootNotRight(t *testing.T) {
	l := low().with(3, leaf("z")).image(9, 2)
	for at := range 512 {
		spoilt := slices.Clone(l)
		spoilt[2] = turned(l[2], at)
		wantFound(t, fmt.Sprint("another byte at ", at), spoilt, 2, 2)
	}
	for name, block := range map[string]string{
		"noughts":               noughts,
		"a head":                l[0],
		"another page's":        l[3],
		"of another Number":     blockOf(of(low()[2], 3)),
		"of the Birth 0":        blockOf(of(born(low()[2], 0), 2)),
		"of a Birth below 0":    blockOf(of(born(low()[2], -1), 2)),
		"of the Birth 5":        blockOf(of(born(low()[2], 5), 2)),
		"of the last Birth":     blockOf(of(born(low()[2], 1<<62), 2)),
		"of a Birth beyond it":  blockOf(of(born(low()[2], 1<<62+1), 2)),
		"naming 0":              blockOf(of(inner("m", 0, 3), 2)),
		"naming 1":              blockOf(of(inner("m", 3, 1), 2)),
		"naming 9":              blockOf(of(inner("m", 3, 9), 2)),
		"naming 4095":           blockOf(of(inner("m", 4095, 3), 2)),
		"naming 4096":           blockOf(of(inner("m", 4096, 3), 2)),
		"naming more than that": blockOf(of(inner("m", 1<<31, 1<<32-1), 2)),
		"of the kind 0":         blockOf(api.Page{Number: 2, Birth: 1, Body: "x"}),
		"no nought behind it":   checkedPage(put(l[2], 507, "x")),
		"with a great Body":     checkedPage(put(l[2], 16, "\xff\xff")),
		"with too many links":   checkedPage(put(l[2], 3, "\xff")),
	} {
		spoilt := slices.Clone(l)
		spoilt[2] = block
		wantFound(t, name, spoilt, 2, 2)
	}
	wantFound(t, "a right root", l, 5, 3)
}

// C1: a page may have any Birth from 1 to the generation of the head.
func TestBirth(t *testing.T) {
	for birth, want := range map[int][]int{-1: {2, 4}, 0: {2, 4}, 1: nil, 2: nil, 3: nil, 4: nil, 5: {2, 4}, 1 << 62: {2, 4}} {
		wantFound(t, fmt.Sprint("of the Birth ", birth), low().with(4, born(leaf("m"), birth)).image(8, 2), want...)
	}
}

// C1: each Link is 2 to one less than there are blocks.
func TestLinks(t *testing.T) {
	l := low().with(5, leaf("x z")).with(7, leaf("x z")).with(8, leaf("x z"))
	for kid, want := range map[int][]int{0: {2, 2}, 1: {2, 2}, 5: nil, 6: {2, 6}, 7: nil, 8: nil, 9: {2, 2}, 10: {2, 2}, 4095: {2, 2}} {
		wantFound(t, fmt.Sprint("the last kid is ", kid), l.with(2, inner("m", 3, kid)).image(9, 2), want...)
	}
	for kid, want := range map[int][]int{0: {2, 2}, 1: {2, 2}, 6: {2, 6}, 9: {2, 2}} {
		wantFound(t, fmt.Sprint("the first kid is ", kid), l.with(2, inner("m", kid, 4)).image(9, 2), want...)
	}
	wantFound(t, "of 4096 blocks the last", pages{2: inner("m", 3, 4095), 3: leaf("a"), 4095: leaf("x")}.image(4096, 2))
	wantFound(t, "of 4096 blocks one more", pages{2: inner("m", 3, 4096), 3: leaf("a")}.image(4096, 2), 2, 2)
	root := leaf("x")
	root.Links = []int{9}
	wantFound(t, "a leaf that names one that is not there", pages{2: root}.image(9, 2), 2, 2)
	root.Links = []int{8}
	wantFound(t, "a leaf that names one that is there", pages{2: root}.image(9, 2), 4, 2)
}

// C1: behind a page that is not right nothing is looked at.
func TestBehindNotRight(t *testing.T) {
	wrong := high().with(5, leaf("z")).with(6, sized("e", 9)).with(7, inner(long("h"), 2, 3)).with(8, api3())
	wantFound(t, "ahead of it", wrong.image(13, 2), 3, 2, 3, 3, 4, 6, 4, 7, 4, 8, 5, 5)
	spoilt := wrong.image(13, 2)
	spoilt[3] = turned(spoilt[3], 511)
	wantFound(t, "of another check", spoilt, 2, 3)
	wantFound(t, "of a Birth of 5", wrong.with(3, born(wrong[3], 5)).image(13, 2), 2, 3)
	moved := wrong.image(13, 2)
	moved[3] = moved[4]
	wantFound(t, "another one's block", moved, 2, 3)
	beyond := inner(long("d")+" "+long("g")+" "+long("j"), 5, 6, 7, 13)
	wantFound(t, "with a link that is none", wrong.with(3, beyond).image(13, 2), 2, 3)
}

// C1: several pages that are not right, each once, by rising pages.
func TestSeveralNotRight(t *testing.T) {
	l := high().image(13, 2)
	for _, n := range []int{12, 4, 7, 5} {
		l[n] = noughts
	}
	wantFound(t, "four pages, of which one is behind another", l, 2, 4, 2, 5, 2, 7)
}
