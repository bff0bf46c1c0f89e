package tree

import (
	"latchkey/api"
	"latchkey/node"
	"latchkey/pager"
)

// pages are those of the tree of one root, as one call reads them. None of them is named twice, for on pages that lead back to themselves nobody would come to an end.
type pages struct {
	pager *pager.Pager
	root  int
	named []bool // by their numbers
}

func pagesOf(p *pager.Pager, root int) *pages {
	s := &pages{p, root, make([]bool, p.Size())}
	s.name(root)
	return s
}

// read is the node on a page. A root that is not in use is the fault of whoever asks for it, all else that of what stands there.
func (s *pages) read(number int) (api.Node, api.Errno) {
	page, errno := s.pager.Read(number)
	if errno == api.ErrPagerNone && number == s.root {
		return api.Node{}, errno
	}
	n, wrong := node.Parse(page)
	if errno != api.OK || wrong != api.OK || !s.nameAll(n.Kids) {
		return api.Node{}, api.ErrTreeForm
	}
	return n, api.OK
}

func (s *pages) nameAll(numbers []int) bool {
	for _, number := range numbers {
		if !s.name(number) {
			return false
		}
	}
	return true
}

// name notes that a page is named: is there such a one, and was it not named yet?
func (s *pages) name(number int) bool {
	if number < 0 || number >= len(s.named) || s.named[number] {
		return false
	}
	s.named[number] = true
	return true
}
