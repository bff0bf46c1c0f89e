package check_test

import (
	"fmt"
	"strings"
	"testing"

	"latchkey/api"
)

// api3 is a page of no kind that layer 10 knows.
func api3() api.Page {
	return api.Page{Kind: 3, Birth: 1, Links: []int{3, 4}, Body: "x"}
}

// refused are right pages that layer 10 takes for no node.
func refused() map[string]api.Page {
	great := leafOf("a", strings.Repeat("v", 200), "b", strings.Repeat("v", 200), "c", strings.Repeat("v", 72))
	linked := leaf("a")
	linked.Links = []int{3}
	return map[string]api.Page{
		"of the kind 3":                     api3(),
		"of the kind 255":                   {Kind: 255, Birth: 1},
		"a leaf without a Body":             {Kind: 1, Birth: 1},
		"a leaf without keys":               leafOf(),
		"a leaf with an empty key":          leafOf("", strings.Repeat("v", 150)),
		"a leaf with a key of 37":           sized(strings.Repeat("k", 37), 150),
		"a leaf with a value of 201":        leafOf("k", strings.Repeat("v", 201)),
		"a leaf of 481":                     great,
		"a leaf of keys that fall":          leaf("b a"),
		"a leaf of one key twice":           leaf("a a"),
		"a leaf with links":                 linked,
		"a leaf with bytes behind it":       {Kind: 1, Birth: 1, Body: leaf("a").Body + "x"},
		"a leaf that is cut":                {Kind: 1, Birth: 1, Body: leaf("a").Body[:100]},
		"an inner without keys":             inner("", 3),
		"an inner with too few kids":        inner(long("a")+" "+long("b")+" "+long("c"), 3, 4, 5),
		"an inner with too many kids":       inner(long("a")+" "+long("b")+" "+long("c"), 3, 4, 5, 6, 7),
		"an inner without kids":             inner(long("a") + " " + long("b") + " " + long("c")),
		"an inner with the same kid twice":  inner(long("a")+" "+long("b")+" "+long("c"), 3, 4, 5, 3),
		"an inner with keys that fall":      inner(long("b")+" "+long("a")+" "+long("c"), 3, 4, 5, 6),
		"an inner with a key of 37":         inner(strings.Repeat("k", 37), 3, 4),
		"an inner with the body of a leaf":  {Kind: 2, Birth: 1, Links: []int{3, 4}, Body: leaf("a").Body},
		"an inner with bytes behind it":     {Kind: 2, Birth: 1, Links: []int{3, 4}, Body: inner("m").Body + "\x00"},
		"an inner that is cut":              {Kind: 2, Birth: 1, Links: []int{3, 4}, Body: inner("m").Body[:2]},
		"a leaf's kind with an inner's all": {Kind: 1, Birth: 1, Links: []int{3, 4}, Body: inner("m").Body},
	}
}

// C1: a page that Parse refuses, as the root and below it; nothing behind it is looked at.
func TestRefused(t *testing.T) {
	for name, page := range refused() {
		wrong := pages{3: leaf("z a"), 4: sized("a", 9), 5: api3(), 6: leaf("z"), 7: leaf("z")}
		wantFound(t, name+", as the root", wrong.with(2, page).image(9, 2), 4, 2)
		below := high().with(9, leaf("zz")).with(10, api3()).with(3, page).with(5, leaf("z")).with(6, api3())
		wantFound(t, name+", as the first kid", below.image(13, 2), 4, 3, 4, 10, 5, 9)
		wantFound(t, name+", as a leaf", high().with(11, page).image(13, 2), 4, 11)
	}
}

// C1: below the root a page of 119 bytes is poor, one of 120 is not; the root may be poor.
func TestPoor(t *testing.T) {
	for _, size := range []int{3, 4, 60, 118, 119} {
		wantFound(t, fmt.Sprint("the root of ", size), pages{2: sized("a", size)}.image(8, 2))
		wantTally(t, fmt.Sprint("the root of ", size), pages{2: sized("a", size)}.image(8, 2), 1, 5, 1)
		wantFound(t, fmt.Sprint("the first leaf of ", size), low().with(3, sized("a", size)).image(8, 2), 4, 3)
		wantFound(t, fmt.Sprint("the last leaf of ", size), low().with(4, sized("m", size)).image(8, 2), 4, 4)
	}
	for _, size := range []int{120, 121, 203} {
		wantFound(t, fmt.Sprint("a leaf of ", size), low().with(3, sized("a", size)).image(8, 2))
	}
	full := leafOf("a", strings.Repeat("v", 200), "b", strings.Repeat("v", 200), "c", strings.Repeat("v", 71))
	wantFound(t, "a leaf of 480", low().with(3, full).image(8, 2))
}

// C1: the same of inner nodes; what is behind a poor one is looked at, for it is gone through.
func TestPoorInner(t *testing.T) {
	three := func(last int) string { return long("d") + " " + long("g") + " " + long("j")[:last] }
	wantFound(t, "an inner of 119", high().with(3, inner(three(28), 5, 6, 7, 8)).image(13, 2), 4, 3)
	wantFound(t, "an inner of 120", high().with(3, inner(three(29), 5, 6, 7, 8)).image(13, 2))
	wantFound(t, "an inner of one key", high().with(3, inner("d", 5, 6)).image(13, 2), 4, 3)
	wantFound(t, "a poor one with a poor kid, and one that is wrong", high().with(3, inner("d", 5, 8)).with(5, sized("c", 20)).with(8, leaf("c z")).image(13, 2), 4, 3, 4, 5, 5, 8)
	wantFound(t, "a poor inner root", low().image(8, 2))
	small := pages{2: inner("m", 3, 4), 3: sized("z", 20), 4: sized("a", 20)}
	wantFound(t, "poor and out of bounds", small.image(8, 2), 4, 3, 4, 4, 5, 3, 5, 4)
}
