package grant_test

import (
	"math/big"
	"testing"

	"latchkey/grant"
)

// roomOf is G1, as if numbers had no end.
func roomOf(families, generations int) int {
	n := func(n int) *big.Int { return big.NewInt(int64(n)) }
	f, t := n(min(max(families, 0), 1048576)), n(min(max(generations, 0), 1048576))
	s := new(big.Int).Mul(f, t)
	s.Mul(s, n(124))
	s.Add(s, new(big.Int).Mul(f, n(393)))
	s.Add(s, n(4527))
	l := s.Div(s, n(120))
	l.Add(l, n(1))
	inner := new(big.Int).Div(l, n(3))
	all := l.Add(l, inner)
	all.Add(all, n(2))
	all.Mul(all, n(2))
	return int(all.Add(all, n(2)).Int64())
}

// G1: by hand.
func TestRoomByHand(t *testing.T) {
	for _, c := range [][3]int{
		{0, 0, 106}, {1, 1, 120}, {4, 10, 254}, {-1, 7, 106}, {0, most, 106}, {least, least, 106}, {1, 0, 118}, {1, -1, 118}, {0, 1, 106},
		{1 << 20, 0, 9157672}, {1 << 20, 1 << 20, 3029774531986}, {most, most, 3029774531986}, {1<<20 + 1, 1<<20 + 1, 3029774531986},
	} {
		if got := grant.Room(c[0], c[1]); got != c[2] || roomOf(c[0], c[1]) != c[2] {
			t.Errorf("Room(%d, %d): %d, want %d or %d", c[0], c[1], got, c[2], roomOf(c[0], c[1]))
		}
	}
}

// G1: all small numbers, and those at which something begins or ends.
func TestRoom(t *testing.T) {
	edges := []int{least, least + 1, -1 << 62, -1 << 20, -2, -1, 0, 1, 2, 3, 1<<20 - 1, 1 << 20, 1<<20 + 1, 1 << 21, 1 << 31, 1 << 32, 1 << 40, 1 << 62, most - 1, most}
	for n := range 60 {
		edges = append(edges, 4+n)
	}
	for _, families := range edges {
		for _, generations := range edges {
			if got, want := grant.Room(families, generations), roomOf(families, generations); got != want {
				t.Fatalf("Room(%d, %d): %d, want %d", families, generations, got, want)
			}
		}
	}
}
