package check_test

import (
	"testing"
)

// C1: pages that name themselves, or pages above them.
func TestNamesAbove(t *testing.T) {
	wantFound(t, "itself first", low().with(2, inner("m", 2, 4)).image(8, 2), 3, 2)
	wantFound(t, "itself last", low().with(2, inner("m", 3, 2)).image(8, 2), 3, 2)
	wantFound(t, "itself, and one that is not right", low().with(2, inner("m", 2, 6)).image(8, 2), 2, 6, 3, 2)
	wantFound(t, "the root", high().with(3, inner(long("d")+" "+long("g")+" "+long("j"), 5, 2, 7, 8)).image(13, 2), 3, 2)
	wantFound(t, "itself, below the root", high().with(3, inner(long("d")+" "+long("g")+" "+long("j"), 5, 6, 7, 3)).image(13, 2), 3, 3)
	wantFound(t, "both above it", high().with(3, inner(long("d")+" "+long("g")+" "+long("j"), 3, 2, 7, 8)).image(13, 2), 3, 2, 3, 3)
	wantFound(t, "two that name one another", high().with(3, inner(long("d")+" "+long("g")+" "+long("j"), 5, 6, 7, 13)).with(13, inner(long("jb")+" "+long("k")+" "+long("l"), 3, 8, 2, 13)).image(14, 2),
		3, 2, 3, 3, 3, 13, 5, 8, 6, 8)
}

// C1: pages that are named by two, or more: each once, whatever they are.
func TestNamedByTwo(t *testing.T) {
	shared := func(kid int) pages {
		p := high()
		p[4] = inner(long("p")+" "+long("s")+" "+long("v"), 9, kid, 11, 12)
		return p
	}
	wantFound(t, "a leaf", shared(7).image(13, 2), 3, 7)
	wantFound(t, "an inner page", shared(3).image(13, 2), 3, 3)
	wantFound(t, "the root", shared(2).image(13, 2), 3, 2)
	wantFound(t, "one that is poor", shared(7).with(7, sized("h", 50)).image(13, 2), 3, 7, 4, 7)
	wantFound(t, "one that Parse refuses", shared(7).with(7, api3()).image(13, 2), 3, 7, 4, 7)
	l := shared(7).image(13, 2)
	l[7] = noughts
	wantFound(t, "one that is not right", l, 2, 7, 3, 7)
	three := shared(7).with(2, inner("m zz", 3, 4, 7))
	wantFound(t, "a leaf, by three", three.image(13, 2), 3, 7)
	four := three.with(3, inner(long("d")+" "+long("g")+" "+long("j"), 7, 5, 4, 8)).with(7, leaf("a")).with(5, leaf("e")).with(8, leaf("l"))
	wantFound(t, "a leaf, by all, and an inner page that the walk comes to earlier", four.image(13, 2), 3, 4, 3, 7, 5, 4, 5, 12, 6, 9, 6, 11, 6, 12)
}

// C1: the bounds and the depth of a page are those of the way on which the walk comes to it first.
func TestFirstWay(t *testing.T) {
	// The page 7 is a kid of 3 and of 4: what 3 says of it counts.
	p := high()
	p[4] = inner(long("p")+" "+long("s")+" "+long("v"), 9, 7, 11, 12)
	wantFound(t, "within the first bounds", p.with(7, leaf("h")).image(13, 2), 3, 7)
	wantFound(t, "within the second bounds alone", p.with(7, leaf("q")).image(13, 2), 3, 7, 5, 7)
	wantFound(t, "within none", p.with(7, leaf("z")).image(13, 2), 3, 7, 5, 7)
	// The root names 7 as its last kid, too, where it would not be as deep: it comes there later.
	late := high().with(2, inner("m zz", 3, 4, 7))
	wantFound(t, "as deep on the first way", late.image(13, 2), 3, 7)
	// The root names 11 ahead of all else: it comes there earlier than to 4.
	early := high().with(2, inner("b m", 11, 3, 4)).with(11, leaf("a")).with(5, leaf("c"))
	wantFound(t, "the first leaf is less deep", early.image(13, 2), 3, 11, 6, 5, 6, 6, 6, 7, 6, 8, 6, 9, 6, 10, 6, 12)
	// A page that the walk comes to below its first kid, ahead of its second one.
	deep := high().with(2, inner("m", 3, 8)).with(8, leaf("k l"))
	wantFound(t, "below the first kid ahead of the second one", deep.image(13, 2), 3, 8)
	wantFound(t, "the same out of those bounds", deep.with(8, leaf("n")).image(13, 2), 3, 8, 5, 8)
}
