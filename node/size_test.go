package node_test

import (
	"slices"
	"testing"

	"latchkey/api"
)

// N1: of nodes that have their form.
func TestSize(t *testing.T) {
	wantSize(t, leaf("a", "1", "bc", ""), 8)
	wantSize(t, leaf("a", ""), 3)
	wantSize(t, leaf(long("a", 36), val(200)), 238)
	wantSize(t, inner("m", 5, 9), 10)
	wantSize(t, inner("m no", 5, 9, 1<<32-1), 17)
	wantSize(t, inner(long("a", 36), 2, 3), 45)
	for size := 3; size <= 1000; size++ {
		wantSize(t, sized(size), size)
	}
	for size := 10; size <= 1000; size++ {
		wantSize(t, sizedInner(size), size)
	}
}

// N1: what has not its form is counted as it stands.
func TestSizeWithoutForm(t *testing.T) {
	for _, c := range []struct {
		n    api.Node
		want int
	}{
		{api.Node{}, 0},
		{api.Node{Leaf: true}, 0},
		{api.Node{Leaf: true, Keys: []string{"a", "bc"}}, 7},
		{api.Node{Leaf: true, Values: []string{"a", "bc"}}, 7},
		{api.Node{Leaf: true, Keys: []string{"a", "bc", ""}, Values: []string{"xyz"}}, 12},
		{api.Node{Leaf: true, Keys: []string{"xyz"}, Values: []string{"a", "bc", ""}}, 12},
		{api.Node{Leaf: true, Keys: []string{"a"}, Values: []string{""}, Kids: []int{2, 3}}, 3},
		{api.Node{Leaf: true, Kids: []int{2, 3}}, 0},
		{api.Node{Values: []string{"abc"}}, 0},
		{api.Node{Keys: []string{"a", "", "bc"}}, 6},
		{api.Node{Kids: []int{-1, 0, 1 << 40, 2, 2}}, 20},
		{api.Node{Keys: []string{"a"}, Kids: []int{2, 3}, Values: []string{"abc"}}, 10},
		{api.Node{Keys: []string{"a"}, Kids: []int{2}}, 6},
		{api.Node{Keys: []string{"a"}, Kids: []int{2, 3, 4}}, 14},
		{leaf("", val(201)), 203},
		{leaf("b", "1", "a", "2", "a", "3"), 12},
		{leaf(long("a", 37), val(1000)), 1039},
		{inner(long("a", 1000), least, most), 1009},
		{api.Node{Leaf: true, Keys: slices.Repeat([]string{"ab"}, 5000), Values: slices.Repeat([]string{"c"}, 4000)}, 24000},
		{api.Node{Keys: slices.Repeat([]string{"ab"}, 5000), Kids: make([]int, 4000)}, 31000},
	} {
		wantSize(t, c.n, c.want)
	}
}
