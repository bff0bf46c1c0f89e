package check_test

import (
	"testing"
)

// C1: leaves of unlike depths, where the first leaf is the deeper one.
func TestFirstIsDeeper(t *testing.T) {
	wantFound(t, "the last is less deep", high().with(4, leaf("n")).image(13, 2), 6, 4)
	wantFound(t, "two are less deep", high().with(2, inner("m o", 3, 4, 9)).with(4, leaf("m")).with(9, leaf("o")).image(13, 2), 6, 4, 6, 9)
}

// C1: and where it is not: all that are as deep as the others among themselves, but not as the first, are found.
func TestFirstIsLessDeep(t *testing.T) {
	wantFound(t, "the first is less deep", high().with(3, leaf("a")).image(13, 2), 6, 9, 6, 10, 6, 11, 6, 12)
	p := high().with(5, inner(long("a")+" "+long("b")+" "+long("c"), 13, 14, 15, 16))
	p[13], p[14], p[15], p[16] = leaf("A"), leaf("ab"), leaf("bb"), leaf("d")
	p[16] = leaf("ca")
	wantFound(t, "the first four are deeper", p.image(18, 2), 6, 6, 6, 7, 6, 8, 6, 9, 6, 10, 6, 11, 6, 12)
	p = high().with(6, inner(long("da")+" "+long("e")+" "+long("f"), 13, 14, 15, 16))
	p[13], p[14], p[15], p[16] = leaf(long("d")), leaf("db"), leaf("ea"), leaf("fa")
	wantFound(t, "four behind the first are deeper", p.image(18, 2), 6, 13, 6, 14, 6, 15, 6, 16)
}

// C1: what is not gone through has no depth: the first leaf is one that is gone through.
func TestDepthOfWhatIsGoneThrough(t *testing.T) {
	l := high().with(2, inner("A m", 13, 3, 4)).with(13, leaf("9")).with(5, leaf("B")).image(14, 2)
	wantFound(t, "a first leaf that is less deep", l, 6, 5, 6, 6, 6, 7, 6, 8, 6, 9, 6, 10, 6, 11, 6, 12)
	l[13] = turned(l[13], 30)
	wantFound(t, "the same, not right", l, 2, 13)
	refused := high().with(2, inner("A m", 13, 3, 4)).with(13, leaf("9 8")).with(5, leaf("B"))
	wantFound(t, "the same, refused", refused.image(14, 2), 4, 13)
	poor := refused.with(13, sized("9", 80))
	wantFound(t, "the same, poor", poor.image(14, 2), 4, 13, 6, 5, 6, 6, 6, 7, 6, 8, 6, 9, 6, 10, 6, 11, 6, 12)
	late := high().with(4, leaf("n"))
	wantFound(t, "a later one that is less deep, and poor, and out of bounds", late.with(4, sized("a", 30)).image(14, 2), 4, 4, 5, 4, 6, 4)
	l = late.image(14, 2)
	l[4] = noughts
	wantFound(t, "a later one that is less deep, and not right", l, 2, 4)
}

// C1: inner pages have no depth that counts.
func TestNoLeaves(t *testing.T) {
	l := high().image(13, 2)
	for n := 5; n < 13; n++ {
		l[n] = noughts
	}
	wantFound(t, "no leaf is right", l, 2, 5, 2, 6, 2, 7, 2, 8, 2, 9, 2, 10, 2, 11, 2, 12)
	wantFound(t, "the root is the only leaf", pages{7: leaf("a")}.image(8, 7))
}
