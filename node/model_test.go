package node_test

import (
	"math/rand"
	"slices"
	"strings"

	"latchkey/api"
)

// formOf: has a node its form, by the chapter's words?
func formOf(n api.Node) bool {
	if len(n.Keys) == 0 {
		return false
	}
	if n.Leaf {
		for _, v := range n.Values {
			if len(v) > 200 {
				return false
			}
		}
		return len(n.Values) == len(n.Keys) && len(n.Kids) == 0
	}
	seen := map[int]bool{}
	for _, kid := range n.Kids {
		if kid <= 1 || kid > 4294967295 || seen[kid] {
			return false
		}
		seen[kid] = true
	}
	return len(n.Kids) == 1+len(n.Keys) && len(n.Values) == 0
}

func keysOf(n api.Node) bool {
	ahead := ""
	for _, key := range n.Keys {
		if len(key) > 36 || strings.Compare(ahead, key) >= 0 {
			return false
		}
		ahead = key
	}
	return true
}

func sizeOf(n api.Node) int {
	size := 0
	for i, key := range n.Keys {
		size += 1 + len(key)
		if n.Leaf {
			size++
			if i < len(n.Values) {
				size += len(n.Values[i])
			}
		}
	}
	if n.Leaf {
		for i := len(n.Keys); i < len(n.Values); i++ {
			size += 2 + len(n.Values[i])
		}
		return size
	}
	return size + 4*len(n.Kids)
}

// pageOf is a node's page, whether the node is right or not, as long as lengths stand by one byte.
func pageOf(n api.Node) api.Page {
	b := []byte{byte(len(n.Keys))}
	for i, key := range n.Keys {
		b = append(append(b, byte(len(key))), key...)
		if n.Leaf {
			b = append(append(b, byte(len(n.Values[i]))), n.Values[i]...)
		}
	}
	if n.Leaf {
		return api.Page{Kind: 1, Body: string(b)}
	}
	return api.Page{Kind: 2, Links: n.Kids, Body: string(b)}
}

func errnoOf(n api.Node) api.Errno {
	switch {
	case !formOf(n):
		return 100
	case !keysOf(n):
		return 101
	case sizeOf(n) > 480:
		return 102
	}
	return 0
}

// parsed is the node of a page: the one right node of which it is the page, found by taking its bytes from the front.
func parsed(p api.Page) (api.Node, bool) {
	if p.Kind != 1 && p.Kind != 2 || len(p.Body) == 0 {
		return api.Node{}, false
	}
	n := api.Node{Leaf: p.Kind == 1, Kids: p.Links}
	rest, ok := p.Body[1:], true
	text := func() string {
		if len(rest) == 0 || len(rest) <= int(rest[0]) {
			ok = false
			return ""
		}
		s := rest[1 : 1+int(rest[0])]
		rest = rest[1+len(s):]
		return s
	}
	for range p.Body[0] {
		n.Keys = append(n.Keys, text())
		if n.Leaf {
			n.Values = append(n.Values, text())
		}
	}
	if !ok || rest != "" || errnoOf(n) != 0 {
		return api.Node{}, false
	}
	return n, true
}

func findOf(n api.Node, key string) (int, bool) {
	below, is, upTo := 0, false, 0
	for i, k := range n.Keys {
		if i > 0 && strings.Compare(n.Keys[i-1], k) >= 0 {
			return 0, false
		}
		if strings.Compare(k, key) < 0 {
			below++
		}
		if strings.Compare(k, key) <= 0 {
			upTo++
		}
		is = is || k == key
	}
	if n.Leaf {
		return below, is
	}
	return upTo, false
}

// betweenOf tries all beginnings of b, the shortest first.
func betweenOf(a, b string) string {
	for n := range len(b) {
		if strings.Compare(a, b) < 0 && strings.Compare(b[:n], a) > 0 {
			return b[:n]
		}
	}
	return b
}

// placeOf is where a node is cut, and the greater one of both sizes there.
func placeOf(n api.Node) (int, int) {
	last := len(n.Keys) - 1
	if !n.Leaf {
		last = len(n.Keys) - 2
	}
	at, best := 0, 0
	for i := last; i >= 1; i-- {
		a, _, b := cutAt(n, i)
		if size := max(sizeOf(a), sizeOf(b)); at == 0 || size <= best {
			at, best = i, size
		}
	}
	return at, best
}

func splitErrnoOf(n api.Node) api.Errno {
	switch {
	case !formOf(n):
		return 100
	case !keysOf(n):
		return 101
	case sizeOf(n) <= 480 || sizeOf(n) >= 719:
		return 103
	}
	return 0
}

// joinedOf is what comes of two nodes, or why nothing does.
func joinedOf(a api.Node, key string, b api.Node) (api.Node, api.Errno) {
	for _, n := range []api.Node{a, b} {
		empty := n.Leaf && len(n.Keys) == 0 && len(n.Values) == 0 && len(n.Kids) == 0
		if !formOf(n) && !empty || sizeOf(n) > 480 {
			return api.Node{}, 100
		}
	}
	if !keysOf(a) || !keysOf(b) || len(key) < 1 || len(key) > 36 {
		return api.Node{}, 101
	}
	part := a.Leaf != b.Leaf
	for _, k := range a.Keys {
		part = part || !(k < key)
	}
	for _, k := range b.Keys {
		part = part || k < key || !b.Leaf && k == key
	}
	for _, kid := range a.Kids {
		part = part || slices.Contains(b.Kids, kid)
	}
	if part {
		return api.Node{}, 103
	}
	n := api.Node{Leaf: a.Leaf}
	n.Keys = append(n.Keys, a.Keys...)
	if !a.Leaf {
		n.Keys = append(n.Keys, key)
	}
	n.Keys = append(n.Keys, b.Keys...)
	n.Values = append(append(n.Values, a.Values...), b.Values...)
	n.Kids = append(append(n.Kids, a.Kids...), b.Kids...)
	if sizeOf(n) > 718 {
		return api.Node{}, 102
	}
	return n, 0
}

// someText is one of at most so many bytes, often short, of few kinds of bytes or of all.
func someText(r *rand.Rand, most int) string {
	b := make([]byte, []int{r.Intn(3), r.Intn(most + 1), r.Intn(most + 1), most}[r.Intn(4)])
	few := r.Intn(3) == 0
	for i := range b {
		b[i] = byte(r.Intn(256))
		if few {
			b[i] = "\x00ab\xff"[r.Intn(4)]
		}
	}
	return string(b[:min(len(b), most)])
}

// someKeys are keys that may be, so many at most.
func someKeys(r *rand.Rand, n int) []string {
	most := []int{1, 3, 12, 36, 36}[r.Intn(5)]
	var l []string
	for range n {
		if key := someText(r, most); key != "" {
			l = append(l, key)
		}
	}
	slices.Sort(l)
	return slices.Compact(l)
}

// grownTo is a node that has its form and whose keys may be, of a size of at most so many bytes, mostly near to it.
func grownTo(r *rand.Rand, leaf bool, size int) api.Node {
	for {
		n := api.Node{Leaf: leaf, Keys: someKeys(r, 1+r.Intn([]int{4, 20, 120, 300}[r.Intn(4)]))}
		most := []int{0, 3, 40, 200}[r.Intn(4)]
		for i := range n.Keys {
			n.Values = append(n.Values, someText(r, most))
			n.Kids = append(n.Kids, 2+i+r.Intn(2)*70000)
		}
		n.Kids = append(n.Kids, 1<<32-1)
		r.Shuffle(len(n.Kids), func(i, j int) { n.Kids[i], n.Kids[j] = n.Kids[j], n.Kids[i] })
		if leaf {
			n.Kids = nil
		} else {
			n.Values = nil
		}
		for sizeOf(n) > size {
			at := r.Intn(len(n.Keys))
			n.Keys = slices.Delete(n.Keys, at, at+1)
			if leaf {
				n.Values = slices.Delete(n.Values, at, at+1)
			} else {
				n.Kids = slices.Delete(n.Kids, at, at+1)
			}
		}
		if len(n.Keys) > 0 {
			return n
		}
	}
}

// spoilt is a node of which mostly something is wrong.
func spoilt(r *rand.Rand, n api.Node) api.Node {
	n = clone(n)
	at := r.Intn(len(n.Keys) + 1)
	other := r.Intn(len(n.Keys) + 1)
	kid := []int{least, -1, 0, 1, 2, 3, 70002, 1<<32 - 1, 1 << 32, most}[r.Intn(10)]
	switch how := r.Intn(9); {
	case how == 0:
		n.Leaf = !n.Leaf
	case how == 1:
		n.Keys = slices.Insert(n.Keys, at, someText(r, 38))
	case how == 2:
		n.Kids = slices.Insert(n.Kids, min(at, len(n.Kids)), kid)
	case how == 3:
		n.Values = slices.Insert(n.Values, min(at, len(n.Values)), someText(r, 202))
	case at == len(n.Keys) || other == len(n.Keys):
		n.Keys = nil
	case how == 4:
		n.Keys[at], n.Keys[other] = n.Keys[other], n.Keys[at]
	case how == 5:
		n.Keys[at] = someText(r, 38)
	case how == 6 && len(n.Kids) > at:
		n.Kids[at] = kid
	case how == 7 && len(n.Values) > at:
		n.Values[at] = someText(r, 202)
	default:
		n.Keys = slices.Delete(n.Keys, at, at+1)
	}
	return n
}

// someNode is any: of any size, right or not.
func someNode(r *rand.Rand) api.Node {
	n := grownTo(r, r.Intn(2) == 0, []int{30, 119, 240, 480, 500, 718, 730, 2000}[r.Intn(8)])
	for range max(0, r.Intn(4)-1) {
		n = spoilt(r, n)
	}
	return n
}
