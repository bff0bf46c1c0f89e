package check_test

import (
	"maps"
	"math/rand"
	"slices"
	"strings"
	"testing"

	"latchkey/api"
	"latchkey/check"
)

// seen is how often findings of a kind came by, and images without any.
type seen map[int]int

// wantAll says that all of it came by often enough for a test to be worth something.
func (s seen) wantAll(t *testing.T, least int, kinds ...int) {
	t.Helper()
	for _, kind := range kinds {
		if s[kind] < least {
			t.Errorf("the kind %d came by %d times", kind, s[kind])
		}
	}
}

// wantAccount holds a list against the plain account of it; where nothing is found a disk of it is mounted.
func (s seen) wantAccount(t *testing.T, l []string) {
	t.Helper()
	a, is := accountOf(l)
	if !is {
		s[-1]++
		wantNoImage(t, "no image", l)
		return
	}
	got, errno := check.Image(l)
	if want := a.told(); errno != api.OK || !slices.Equal(got, want) {
		t.Fatalf("Image: %v, %d; want %v", got, errno, want)
	}
	for _, f := range got {
		s[f.Kind]++
	}
	if len(got) > 0 {
		wantNoTally(t, "what has findings", l)
		return
	}
	s[0]++
	wantTally(t, "what has none", l, a.through, len(l)-2-len(a.cameTo), a.keys)
	wantMounts(t, "what has none", l)
}

// C1, C2: pages drawn at random that name one another as they like.
func TestWildPages(t *testing.T) {
	t.Parallel()
	r := rand.New(rand.NewSource(130))
	s := seen{}
	for range 4000 {
		blocks := 8 + r.Intn(9)
		p := pages{}
		for n := 2; n < blocks; n++ {
			p[n] = wildPage(r, blocks)
		}
		l := p.image(blocks, 2+r.Intn(blocks-2))
		if r.Intn(6) == 0 {
			l[r.Intn(blocks)] = noughts
		}
		s.wantAccount(t, l)
	}
	s.wantAll(t, 30, 0, 1, 2, 3, 4, 5, 6)
}

// wildPage is mostly that of a right node, but for whom it names.
func wildPage(r *rand.Rand, blocks int) api.Page {
	letters := "bdfhjlnprtvx"
	var keys []string
	for _, i := range slices.Sorted(slices.Values(r.Perm(len(letters))[:1+r.Intn(3)])) {
		keys = append(keys, letters[i:i+1]+strings.Repeat("-", 35*r.Intn(2)))
	}
	page := leaf(strings.Join(keys, " "))
	if r.Intn(2) == 0 {
		kids := []int{}
		for _, i := range r.Perm(blocks - 2)[:len(keys)+1] {
			kids = append(kids, 2+i)
		}
		page = inner(strings.Join(keys, " "), kids...)
	}
	switch r.Intn(30) {
	case 0:
		page.Birth = r.Intn(7)
	case 1:
		page = sized("k", 110+r.Intn(15))
	case 2:
		page.Body += "x"
	case 3:
		page.Links = append(page.Links, r.Intn(20))
	}
	return page
}

// C1, C2: right trees drawn at random, which are spoilt in one way or another, or not at all.
func TestSpoiltTrees(t *testing.T) {
	t.Parallel()
	r := rand.New(rand.NewSource(131))
	s := seen{}
	for range 20 {
		whole := drawn(t, r)
		s.wantAccount(t, whole)
		for range 110 {
			l := slices.Clone(whole)
			for range 1 + r.Intn(3) {
				spoil(r, l)
			}
			s.wantAccount(t, l)
		}
	}
	s.wantAll(t, 5, -1, 0, 1, 2, 3, 4, 5, 6)
}

// drawn is an image of a tree of one to three levels, some commits old.
func drawn(t *testing.T, r *rand.Rand) []string {
	t.Helper()
	s := began(t, 60+r.Intn(60))
	keys := 1 + r.Intn(60)
	for range 1 + r.Intn(5) {
		for range keys {
			wantErrno(t, "Put", s.x.Put(far(r.Intn(100)), strings.Repeat("v", r.Intn(200))), api.OK)
		}
		if s.x.Commit(n16) != api.OK {
			s.x.Abort()
		}
	}
	return s.d.Blocks()
}

// inUse are the pages of an image to which the walk comes.
func inUse(l []string) []int {
	if a, is := accountOf(l); is && len(a.cameTo) > 0 {
		return slices.Sorted(maps.Keys(a.cameTo))
	}
	return []int{2}
}

// spoil turns a block, puts one in the place of another, cuts one, or lays a page down anew that says something else.
func spoil(r *rand.Rand, l []string) {
	used := inUse(l)
	at, other := used[r.Intn(len(used))], used[r.Intn(len(used))]
	if len(l[at]) != 512 {
		return
	}
	switch n := r.Intn(20); {
	case n == 0:
		l[at] = l[at][:r.Intn(512)]
	case n == 1:
		l[at] = turned(l[at], r.Intn(512))
	case n == 2:
		l[at] = l[other]
	case n == 3:
		l[at], l[other] = l[other], l[at]
	case n == 4:
		l[r.Intn(2)] = l[r.Intn(len(l))]
	case n == 5:
		l[r.Intn(2)] = headOf(1+r.Intn(8), used[0], len(l)+r.Intn(2))
	case n == 6:
		n := r.Intn(len(l))
		l[n] = turned(l[n]+noughts, r.Intn(512))[:max(len(l[n]), 1)]
	default:
		respell(r, l, at, other)
	}
}

// respell lays a page down anew, with a right check, which has another one's place, links or body, or other keys.
func respell(r *rand.Rand, l []string, at, other int) {
	p, right := rightPage(l, at, 1<<62)
	q, rightToo := rightPage(l, other, 1<<62)
	if !right || !rightToo {
		return
	}
	p.Number, p.Birth, q.Number = at, 1, at
	q.Birth = 1
	switch r.Intn(7) {
	case 0:
		p = q // two pages that say the same
	case 1:
		if len(p.Links) > 0 {
			p.Links[r.Intn(len(p.Links))] = other
		}
	case 2:
		p.Birth = r.Intn(9)
	case 3:
		p.Links = q.Links
	case 4:
		p.Body = strings.ReplaceAll(p.Body, "pp", string([]byte{'p', byte('o' + r.Intn(3))}))
	case 5:
		p = leaf(far(r.Intn(100)))
		p.Number = at
	case 6:
		if i := 1 + r.Intn(len(p.Body)); i < len(p.Body) {
			p.Body = turned(p.Body, i)
		}
	}
	l[at] = blockOf(p)
}

// C1: blocks of bytes drawn at random, with and without a head.
func TestWildBlocks(t *testing.T) {
	t.Parallel()
	r := rand.New(rand.NewSource(132))
	s := seen{}
	for range 2000 {
		l := make([]string, 7+r.Intn(6))
		for n := range l {
			b := make([]byte, 512)
			r.Read(b)
			l[n] = string(b)
			if r.Intn(2) == 0 {
				copy(b, "LP")
				l[n] = checkedPage(put(string(b), 4, "\x00\x00\x00"+string([]byte{byte(n)})))
			}
		}
		if r.Intn(3) > 0 {
			l[0] = headOf(2*(1+r.Intn(1<<30)), 2+r.Intn(len(l)-2), len(l))
		}
		if r.Intn(10) == 0 {
			n := r.Intn(len(l))
			l[n] = l[n][:r.Intn(512)]
		}
		s.wantAccount(t, l)
	}
	s.wantAll(t, 100, -1, 1, 2)
}
