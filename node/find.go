package node

import (
	"strings"

	"latchkey/api"
)

// Find is the place of a key in a leaf, and whether it is there; in an inner node the place of the kid that it belongs to.
func Find(n api.Node, key string) (int, bool) {
	if !rise(n.Keys) {
		return 0, false
	}
	at := 0
	for at < len(n.Keys) && n.Keys[at] < key {
		at++
	}
	isThere := at < len(n.Keys) && n.Keys[at] == key
	if n.Leaf {
		return at, isThere
	}
	if isThere { // an inner node's key is the least that belongs to the kid behind it
		at++
	}
	return at, false
}

// Between is the shortest text that parts two keys.
func Between(a, b string) string {
	if a >= b {
		return strings.Clone(b)
	}
	return strings.Clone(b[:alike(a, b)+1])
}

// alike is how many bytes two texts have in common at their beginnings.
func alike(a, b string) int {
	n := 0
	for n < len(a) && n < len(b) && a[n] == b[n] {
		n++
	}
	return n
}
