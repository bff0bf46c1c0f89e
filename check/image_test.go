package check_test

import (
	"fmt"
	"slices"
	"strings"
	"testing"
)

// C1: an image has 8 to 4096 blocks.
func TestHowManyBlocks(t *testing.T) {
	for _, n := range []int{0, 1, 2, 7, 4097, 5000} {
		l := slices.Repeat([]string{noughts}, n)
		wantNoImage(t, fmt.Sprint(n, " blocks of noughts"), l)
		if n >= 2 {
			l[0] = headOf(2, 0, n)
			wantNoImage(t, fmt.Sprint(n, " blocks with a head"), l)
		}
	}
	wantNoImage(t, "nil", nil)
	for _, n := range []int{8, 9, 4095, 4096} {
		l := slices.Repeat([]string{noughts}, n)
		wantFound(t, fmt.Sprint(n, " blocks of noughts"), l, 1, 0)
		l[0] = headOf(2, 0, n)
		wantFound(t, fmt.Sprint(n, " blocks with a head"), l)
		wantTally(t, fmt.Sprint(n, " blocks with a head"), l, 0, n-2, 0)
	}
}

// C1: each block has 512 bytes, the heads' and those to which nobody comes, too.
func TestHowManyBytes(t *testing.T) {
	whole := low().image(9, 2)
	for n := range whole {
		for _, bytes := range []int{0, 1, 511, 513, 1024} {
			l := slices.Clone(whole)
			l[n] = (l[n] + l[n])[:bytes]
			wantNoImage(t, fmt.Sprintf("block %d of %d bytes", n, bytes), l)
		}
	}
	l := slices.Repeat([]string{noughts}, 4096)
	l[4095] = noughts[1:]
	wantNoImage(t, "the last of all", l)
	wantFound(t, "all of 512", whole)
}

// C1: no head is right: then nothing else is looked at.
func TestSuper(t *testing.T) {
	right := headOf(4, 2, 8)
	spoilt := low().with(3, leaf("z")).image(8, 2)
	for name, head := range map[string]string{
		"noughts":                noughts,
		"another letter":         turned(right, 0),
		"another check":          turned(right, 36),
		"no nought behind it":    put(right, 63, "x"),
		"another note":           turned(right, 20),
		"of the generation 0":    headOf(0, 2, 8),
		"of a great generation":  headOf(1<<62+2, 2, 8),
		"of an odd generation":   headOf(5, 2, 8),
		"of the root 1":          headOf(4, 1, 8),
		"of the root 8":          headOf(4, 8, 8),
		"of 7 blocks":            headOf(4, 2, 7),
		"of 9 blocks":            headOf(4, 2, 9),
		"a page":                 spoilt[2],
		"the letters of a page":  put(right, 0, "LP"),
		"a head, one byte later": "\x00" + right[:511],
	} {
		l := slices.Clone(spoilt)
		l[0] = head
		wantFound(t, name, l, 1, 0)
		l[1] = headOf(4, 2, 8)
		wantFound(t, name+", an even one on the block 1", l, 1, 0)
		l[1] = headOf(3, 0, 8)
		wantFound(t, name+", a right one on the block 1", l)
	}
	l := slices.Clone(spoilt)
	l[0], l[1] = noughts, headOf(5, 2, 9)
	wantFound(t, "of 9 blocks, on the block 1", l, 1, 0)
	wantFound(t, "a right one", spoilt, 5, 3)
}

// C1: what stands behind a head's sector is not looked at.
func TestBehindTheSector(t *testing.T) {
	l := low().image(8, 2)
	l[0] = l[0][:64] + strings.Repeat("x", 448)
	wantFound(t, "other bytes behind the first 64", l)
	wantTally(t, "other bytes behind the first 64", l, 3, 3, 5)
}

// C1: of two right heads that of the greater generation counts, for its root and for how old pages may be.
func TestWhichHead(t *testing.T) {
	tree := low().with(5, leaf("a b c"))
	for _, c := range []struct {
		name              string
		even, odd         string
		pages, free, keys int
	}{
		{"one on the block 0", headOf(4, 2, 9), noughts, 3, 4, 5},
		{"one on the block 1", noughts, headOf(3, 5, 9), 1, 6, 3},
		{"the block 0 is ahead", headOf(4, 2, 9), headOf(3, 5, 9), 3, 4, 5},
		{"the block 1 is ahead", headOf(4, 2, 9), headOf(5, 5, 9), 1, 6, 3},
		{"the block 0 is far ahead", headOf(1<<62, 0, 9), headOf(1<<62-1, 2, 9), 0, 7, 0},
		{"the block 1 is far ahead", headOf(2, 0, 9), headOf(1<<62-1, 2, 9), 3, 4, 5},
		{"one of an odd generation on the block 0", headOf(7, 5, 9), headOf(3, 2, 9), 3, 4, 5},
		{"one of another size", headOf(8, 5, 8), headOf(3, 2, 9), 3, 4, 5},
		{"one of another check", turned(headOf(8, 5, 9), 37), headOf(3, 2, 9), 3, 4, 5},
	} {
		l := tree.image(9, 2)
		l[0], l[1] = c.even, c.odd
		wantFound(t, c.name, l)
		wantTally(t, c.name, l, c.pages, c.free, c.keys)
		wantMounts(t, c.name, l)
	}
	page := leaf("a")
	page.Birth = 4
	l := pages{2: page}.image(8, 2)
	l[1] = headOf(3, 2, 8)
	wantFound(t, "born in the generation of the head that counts", l)
	l[0], l[1] = headOf(2, 2, 8), headOf(3, 2, 8)
	wantFound(t, "born behind it", l, 2, 2)
}

// C1: a root of 0 leads to nothing, whatever stands on the pages.
func TestNoRoot(t *testing.T) {
	l := low().with(3, leaf("z")).image(9, 0)
	l[5] = strings.Repeat("x", 512)
	wantFound(t, "the root 0", l)
	wantTally(t, "the root 0", l, 0, 7, 0)
	wantMounts(t, "the root 0", l)
}

// C1: what nobody comes to is not looked at.
func TestNotComeTo(t *testing.T) {
	l := low().with(5, inner("c", 5, 9)).with(6, leaf("z a")).with(7, api3()).image(12, 2)
	l[8] = turned(l[3], 9)
	wantFound(t, "wrong pages beside the tree", l)
	wantTally(t, "wrong pages beside the tree", l, 3, 7, 5)
	wantMounts(t, "wrong pages beside the tree", l)
}

// C1: findings of all kinds that stand beside one another, by rising kinds, of one kind by rising pages.
func TestSeveralAtOnce(t *testing.T) {
	p := high()
	p[3] = inner(long("d")+" "+long("g")+" "+long("j"), 12, 11, 5, 6)
	p[4] = inner(long("p")+" "+long("s")+" "+long("v"), 10, 4, 7, 13)
	p[13] = inner(long("w")+" "+long("x")+" "+long("y"), 6, 14, 15, 12)
	p[12] = leaf("a")
	p[11] = sized("z", 119)
	p[5] = leaf("z")
	p[6] = api3()
	p[10] = leaf("o")
	p[7] = sized("t", 20)
	p[14] = leaf("xx")
	p[15] = leaf("a")
	l := p.image(17, 2)
	wantFound(t, "all that may be", l,
		3, 4, 3, 6, 3, 12,
		4, 6, 4, 7, 4, 11,
		5, 5, 5, 11, 5, 14, 5, 15,
		6, 14, 6, 15)
	l[7] = turned(l[7], 100)
	l[14] = noughts
	wantFound(t, "and pages that are not right", l,
		2, 7, 2, 14,
		3, 4, 3, 6, 3, 12,
		4, 6, 4, 11,
		5, 5, 5, 11, 5, 15,
		6, 15)
}
