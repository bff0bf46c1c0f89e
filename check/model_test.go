package check_test

import (
	"cmp"
	"encoding/binary"
	"hash/crc32"
	"slices"
	"strings"

	"latchkey/api"
)

// account is the chapter's own words for an image, in the order in which they stand there; it reads blocks by itself.
type account struct {
	l                []string
	generation, root int
	cameTo           map[int]bool
	firstLeaf        int // its depth; -1: none yet
	findings         map[api.Finding]bool
	through, keys    int
}

// accountOf is that of an image; false: it is none.
func accountOf(l []string) (*account, bool) {
	if len(l) < 8 || len(l) > 4096 {
		return nil, false
	}
	for _, s := range l {
		if len(s) != 512 {
			return nil, false
		}
	}
	a := &account{l: l, cameTo: map[int]bool{}, firstLeaf: -1, findings: map[api.Finding]bool{}}
	for n := range 2 {
		generation, root, right := topOf(l[n], len(l))
		if right && generation%2 == n && generation > a.generation {
			a.generation, a.root = generation, root
		}
	}
	switch {
	case a.generation == 0:
		a.find(1, 0)
	case a.root != 0:
		a.come(a.root, 0, nil, nil)
	}
	return a, true
}

func (a *account) find(kind, page int) { a.findings[api.Finding{Kind: kind, Page: page}] = true }

// told are the findings, by rising kinds, of one kind by rising pages.
func (a *account) told() []api.Finding {
	var all []api.Finding
	for f := range a.findings {
		all = append(all, f)
	}
	slices.SortFunc(all, func(a, b api.Finding) int { return cmp.Compare(a.Kind*10000+a.Page, b.Kind*10000+b.Page) })
	return all
}

// come is the walk, from a page on; a bound that is nil is none.
func (a *account) come(number, depth int, lower, upper *string) {
	if a.cameTo[number] {
		a.find(3, number)
		return
	}
	a.cameTo[number] = true
	p, right := rightPage(a.l, number, a.generation)
	if !right {
		a.find(2, number)
		return
	}
	n, size, is := nodeOf(p)
	if !is {
		a.find(4, number)
		return
	}
	a.through++
	if number != a.root && size < 120 {
		a.find(4, number)
	}
	for _, key := range n.Keys {
		if lower != nil && (key < *lower || !n.Leaf && key == *lower) || upper != nil && key >= *upper {
			a.find(5, number)
		}
	}
	if n.Leaf {
		a.keys += len(n.Keys)
		if a.firstLeaf < 0 {
			a.firstLeaf = depth
		}
		if depth != a.firstLeaf {
			a.find(6, number)
		}
	}
	for i, kid := range n.Kids {
		low, high := lower, upper
		if i > 0 {
			low = &n.Keys[i-1]
		}
		if i < len(n.Keys) {
			high = &n.Keys[i]
		}
		a.come(kid, depth+1, low, high)
	}
}

// topOf is the head whose sector a block begins with, if it is one of an image of so many blocks.
func topOf(s string, blocks int) (int, int, bool) {
	b := []byte(s[:64])
	generation, root := binary.BigEndian.Uint64(b[4:]), int(binary.BigEndian.Uint32(b[12:]))
	right := string(b[:4]) == "LKEY" && generation >= 1 && generation <= 1<<62 &&
		(root == 0 || root >= 2 && root < blocks) && int(binary.BigEndian.Uint32(b[16:])) == blocks &&
		binary.BigEndian.Uint32(b[36:]) == crc32.ChecksumIEEE(b[:36]) && string(b[40:]) == noughts[:24]
	return int(generation), root, right
}

// rightPage is the page on a block, if it is right.
func rightPage(l []string, number, generation int) (api.Page, bool) {
	b := []byte(l[number])
	birth, size, links := binary.BigEndian.Uint64(b[8:]), int(binary.BigEndian.Uint16(b[16:])), int(b[3])
	if string(b[:2]) != "LP" || b[2] == 0 || int(binary.BigEndian.Uint32(b[4:])) != number ||
		birth < 1 || birth > uint64(generation) || b[18] != 0 || b[19] != 0 || 4*links+size > 488 ||
		string(b[20+4*links+size:508]) != noughts[20+4*links+size:508] ||
		binary.BigEndian.Uint32(b[508:]) != crc32.ChecksumIEEE(b[:508]) {
		return api.Page{}, false
	}
	p := api.Page{Kind: int(b[2]), Body: string(b[20+4*links : 20+4*links+size])}
	for i := range links {
		link := int(binary.BigEndian.Uint32(b[20+4*i:]))
		if link < 2 || link >= len(l) {
			return api.Page{}, false
		}
		p.Links = append(p.Links, link)
	}
	return p, true
}

// nodeOf is the node of which a page is, and its size, if it is that of a right one.
func nodeOf(p api.Page) (api.Node, int, bool) {
	n := api.Node{Leaf: p.Kind == 1, Kids: p.Links}
	if p.Kind > 2 || len(p.Body) == 0 || p.Body[0] == 0 {
		return n, 0, false
	}
	count, rest, size := int(p.Body[0]), p.Body[1:], 4*len(p.Links)
	for range count {
		key, behind, is := cutText(rest)
		if !is || len(key) < 1 || len(key) > 36 || len(n.Keys) > 0 && n.Keys[len(n.Keys)-1] >= key {
			return n, 0, false
		}
		rest, size = behind, size+1+len(key)
		n.Keys = append(n.Keys, key)
		if n.Leaf {
			value, behind, is := cutText(rest)
			if !is || len(value) > 200 {
				return n, 0, false
			}
			rest, size = behind, size+1+len(value)
		}
	}
	kids := slices.Clone(p.Links)
	slices.Sort(kids)
	formed := n.Leaf && len(kids) == 0 || !n.Leaf && len(kids) == count+1 && len(slices.Compact(kids)) == count+1
	return n, size, formed && rest == "" && size <= 480
}

// cutText is a text with its length by one byte ahead, and what is behind it.
func cutText(s string) (string, string, bool) {
	if s == "" || len(s) < 1+int(s[0]) {
		return "", "", false
	}
	return strings.Clone(s[1 : 1+s[0]]), s[1+int(s[0]):], true
}
