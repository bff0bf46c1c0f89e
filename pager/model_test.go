package pager_test

import (
	"maps"
	"math/rand"
	"slices"
	"strings"

	"latchkey/api"
)

// store is what a commit made: the chapter's words for what stands on a disk.
type store struct {
	generation, root int
	note             string
	pages            map[int]api.Page // that are reached, by their numbers
}

// standing is the store that stands on an image, by the chapter's words.
func standing(l []string) (store, bool) {
	var last top
	for n := range 2 {
		if h, ok := topOf(l[n]); ok && h.blocks == len(l) && h.generation%2 == n && h.generation > last.generation {
			last = h
		}
	}
	s := store{last.generation, last.root, last.note, map[int]api.Page{}}
	return s, last.generation > 0 && (last.root == 0 || s.reach(l, last.root))
}

// reach adds what a page reaches; false: it is not right, or was reached already.
func (s store) reach(l []string, n int) bool {
	if _, twice := s.pages[n]; twice || n >= len(l) {
		return false
	}
	p, ok := parsed(l[n])
	if !ok || p.Number != n || p.Birth > s.generation {
		return false
	}
	s.pages[n] = p
	for _, link := range p.Links {
		if !s.reach(l, link) {
			return false
		}
	}
	return true
}

// anyImage is mostly of a store with some pages, of which some are spoilt.
func anyImage(r *rand.Rand) []string {
	blocks := 8 + r.Intn(4)
	generation := 1 + r.Intn(5)
	l := slices.Repeat([]string{noughts}, blocks)
	kids := map[int][]int{}
	order := r.Perm(blocks - 2)[:r.Intn(blocks-1)]
	root := 0
	for i, n := range order {
		if i == 0 {
			root = n + 2
			continue
		}
		parent := order[r.Intn(i)] + 2
		kids[parent] = append(kids[parent], n+2)
	}
	for _, n := range order {
		p := api.Page{Kind: 1 + r.Intn(3), Number: n + 2, Birth: 1 + r.Intn(generation), Links: kids[n+2], Body: body(r.Intn(9))}
		if r.Intn(30) == 0 {
			p.Birth = generation + r.Intn(2)
		}
		if r.Intn(30) == 0 {
			p.Links = append(p.Links, 2+r.Intn(blocks))
		}
		if r.Intn(40) == 0 {
			p.Number = 2 + r.Intn(blocks)
		}
		l[n+2] = blockOf(p)
		if r.Intn(60) == 0 {
			l[n+2] = put(l[n+2], r.Intn(512), "?")
		}
	}
	for range 1 + r.Intn(2) {
		l[r.Intn(2)] = headOf(r.Intn(4), []int{0, root}[r.Intn(2)], blocks, m16)
	}
	l[generation%2] = headOf(generation, root, blocks, n16)
	if r.Intn(20) == 0 {
		l[r.Intn(2)] = headOf(generation+1, 0, blocks+r.Intn(2), n16)
	}
	return l
}

// model is the chapter's words for a pager, and for the disk below it as far as its acts go.
type model struct {
	size  int
	last  store
	pins  map[int]map[int]api.Page // by their numbers: what they keep
	fuse  int                      // in which act from now on the disk dies; 0: in none
	dead  bool
	doubt bool
	under *store // what the commit would have made in whose last act the disk died
}

func newModel(size int, s store) *model {
	return &model{size: size, last: s, pins: map[int]map[int]api.Page{}}
}

// held are the pages that pins alone keep.
func (m *model) held() map[int]api.Page {
	held := map[int]api.Page{}
	for _, kept := range m.pins {
		maps.Copy(held, kept)
	}
	for n := range m.last.pages {
		delete(held, n)
	}
	return held
}

// free are the pages that nobody needs, rising.
func (m *model) free() []int {
	var l []int
	held := m.held()
	for n := 2; n < m.size; n++ {
		_, isReached := m.last.pages[n]
		_, isHeld := held[n]
		if !isReached && !isHeld {
			l = append(l, n)
		}
	}
	return l
}

// ask is ErrDead, of which a doubt comes.
func (m *model) ask() api.Errno {
	if m.dead || m.doubt {
		m.doubt = true
		return api.ErrDead
	}
	return api.OK
}

func (m *model) next(k int) ([]int, api.Errno) {
	if k < 0 {
		return nil, api.ErrArg
	}
	if errno := m.ask(); errno != api.OK {
		return nil, errno
	}
	free := m.free()
	if k > len(free) {
		return nil, api.ErrPagerFull
	}
	return free[:k], api.OK
}

func (m *model) read(n int) (api.Page, api.Errno) {
	if errno := m.ask(); errno != api.OK {
		return api.Page{}, errno
	}
	if p, ok := m.last.pages[n]; ok {
		return p, api.OK
	}
	if p, ok := m.held()[n]; ok {
		return p, api.OK
	}
	return api.Page{}, api.ErrPagerNone
}

func (m *model) pin() (int, api.Errno) {
	if errno := m.ask(); errno != api.OK {
		return 0, errno
	}
	if len(m.pins) == 4 {
		return 0, api.ErrPagerPins
	}
	pin := 1
	for m.pins[pin] != nil {
		pin++
	}
	m.pins[pin] = maps.Clone(m.last.pages)
	return pin, api.OK
}

func (m *model) unpin(pin int) api.Errno {
	if errno := m.ask(); errno != api.OK {
		return errno
	}
	if m.pins[pin] == nil {
		return api.ErrPagerPins
	}
	delete(m.pins, pin)
	return api.OK
}

// commit is what is handed to Commit.
type commit struct {
	fresh []api.Page
	root  int
	note  string
	gone  []int
}

// wrongAlone: may it not be, whatever stands on the disk?
func (c commit) wrongAlone() bool {
	for n, p := range c.fresh {
		if !mayBe(born(p, 1)) || n > 0 && p.Number <= c.fresh[n-1].Number {
			return true
		}
	}
	for n := range c.gone {
		if n > 0 && c.gone[n] <= c.gone[n-1] {
			return true
		}
	}
	return false
}

// made is the store that a commit would make; false: it may not be, as the store is.
func (m *model) made(c commit) (store, bool) {
	s := store{m.last.generation + 1, c.root, c.note, maps.Clone(m.last.pages)}
	for _, n := range c.gone {
		if _, ok := s.pages[n]; !ok {
			return store{}, false
		}
		delete(s.pages, n)
	}
	free := m.free()
	for n, p := range c.fresh {
		if n >= len(free) || p.Number != free[n] {
			return store{}, false
		}
		s.pages[p.Number] = born(p, s.generation)
	}
	named := []int{}
	if c.root != 0 {
		named = append(named, c.root)
	}
	for _, p := range c.fresh {
		named = append(named, p.Links...)
	}
	for _, n := range named {
		if _, ok := s.pages[n]; !ok {
			return store{}, false
		}
	}
	return s, true
}

func (m *model) commit(c commit) api.Errno {
	switch {
	case len(c.note) != 16:
		return api.ErrArg
	case c.wrongAlone():
		return api.ErrPagerPage
	case m.ask() != api.OK:
		return api.ErrDead
	}
	s, ok := m.made(c)
	switch {
	case !ok:
		return api.ErrPagerPage
	case m.last.generation == worn:
		return api.ErrPagerWorn
	}
	acts := len(c.fresh) + 3
	if m.fuse > 0 && m.fuse <= acts {
		m.dead, m.doubt = true, true
		if m.fuse == acts {
			m.under = &s
		}
		return api.ErrDead
	}
	m.fuse = max(0, m.fuse-acts)
	m.last = s
	return api.OK
}

// someNote is 16 bytes.
func someNote(r *rand.Rand) string {
	return strings.Repeat(string([]byte{byte(r.Intn(256))}), 15) + string([]byte{byte(r.Intn(256))})
}

// parts takes a store's tree apart: the roots of parts of it that stay whole, and the pages that are gone.
func (s store) parts(r *rand.Rand, n int, stay, gone *[]int) {
	how := r.Intn(5)
	if how < 2 {
		*stay = append(*stay, n)
		return
	}
	*gone = append(*gone, n)
	for _, kid := range s.pages[n].Links {
		if how == 4 {
			s.all(kid, gone)
		} else {
			s.parts(r, kid, stay, gone)
		}
	}
}

// all adds all pages that a page reaches.
func (s store) all(n int, l *[]int) {
	*l = append(*l, n)
	for _, kid := range s.pages[n].Links {
		s.all(kid, l)
	}
}

// treeCommit is one that may be, and leaves reached just what its root reaches, each page once. The store that it goes on from is such a tree.
func (m *model) treeCommit(r *rand.Rand) commit {
	c := commit{note: someNote(r)}
	var stay []int
	if m.last.root != 0 {
		m.last.parts(r, m.last.root, &stay, &c.gone)
	}
	free := m.free()
	free = free[:r.Intn(min(len(free), 4)+1)]
	kids := map[int][]int{}
	for n, number := range free {
		if n > 0 {
			parent := free[r.Intn(n)]
			kids[parent] = append(kids[parent], number)
		}
	}
	for n, part := range stay {
		switch {
		case len(free) > 0:
			parent := free[r.Intn(len(free))]
			kids[parent] = append(kids[parent], part)
		case n > 0:
			m.last.all(part, &c.gone)
		default:
			c.root = part
		}
	}
	slices.Sort(c.gone)
	for _, number := range free {
		c.root = free[0]
		links := kids[number]
		r.Shuffle(len(links), func(i, j int) { links[i], links[j] = links[j], links[i] })
		text := make([]byte, r.Intn(489-4*len(links)))
		r.Read(text)
		c.fresh = append(c.fresh, api.Page{Kind: 1 + r.Intn(255), Number: number, Birth: someNumber(r, 0, 1, 7, -1), Links: links, Body: string(text)})
	}
	return c
}

// anyCommit may be, but need not leave a tree: links go anywhere, and what nobody names may stay.
func (m *model) anyCommit(r *rand.Rand) commit {
	c := commit{note: someNote(r)}
	free := m.free()
	free = free[:r.Intn(min(len(free), 3)+1)]
	named := slices.Clone(free)
	for _, n := range slices.Sorted(maps.Keys(m.last.pages)) {
		if r.Intn(3) == 0 {
			c.gone = append(c.gone, n)
		} else {
			named = append(named, n)
		}
	}
	for _, n := range free {
		p := page(n, body(r.Intn(30)))
		for range r.Intn(4) {
			p.Links = append(p.Links, named[r.Intn(len(named))])
		}
		c.fresh = append(c.fresh, p)
	}
	if len(named) > 0 && r.Intn(6) > 0 {
		c.root = named[r.Intn(len(named))]
	}
	return c
}

// spoil makes something of a commit wrong, mostly.
func (m *model) spoil(r *rand.Rand, c commit) commit {
	anywhere := func() int {
		return []int{-1, 0, 1, 2, m.size - 1, m.size, 4095, 4096, least, most, 2 + r.Intn(m.size), 2 + r.Intn(m.size)}[r.Intn(12)]
	}
	at := 0
	if len(c.fresh) > 0 {
		at = r.Intn(len(c.fresh))
	}
	switch how := r.Intn(9); {
	case how == 0:
		c.note = c.note[:r.Intn(16)]
	case how == 1:
		c.root = anywhere()
	case how == 2:
		c.gone = append(slices.Clone(c.gone), anywhere())
	case how == 3 && len(c.gone) > 1:
		c.gone = slices.Clone(c.gone)
		c.gone[0], c.gone[1] = c.gone[1], c.gone[0]
	case how == 4:
		c.fresh = append(slices.Clone(c.fresh), page(anywhere(), "more"))
	case how > 4 && len(c.fresh) > 0:
		c.fresh = slices.Clone(c.fresh)
		p := &c.fresh[at]
		switch how {
		case 5:
			p.Kind = someNumber(r, 0, 256, -1)
		case 6:
			p.Number = anywhere()
		case 7:
			p.Links = append(slices.Clone(p.Links), anywhere())
		case 8:
			p.Body = body(489)
		}
	}
	return c
}
