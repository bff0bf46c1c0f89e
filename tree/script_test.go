package tree_test

import (
	"maps"
	"math/rand"
	"slices"
	"strings"
	"testing"

	"latchkey/api"
	"latchkey/tree"
)

// kept is what a pin keeps: a root, and the pairs that stood below it.
type kept struct {
	root   int
	stands map[string]string
}

// both is a store and the list that it must be like.
type both struct {
	*store
	l     *list
	pins  map[int]kept
	turns map[string]int
}

func newBoth(t *testing.T, blocks int) *both {
	t.Helper()
	return &both{began(t, blocks), newList(), map[int]kept{}, map[string]int{}}
}

func (b *both) put(t *testing.T, key, value string) {
	t.Helper()
	wantPut(t, b.x, key, value, api.OK)
	b.l.has[key] = value
}

func (b *both) delete(t *testing.T, key string) {
	t.Helper()
	_, had := b.l.has[key]
	wantDelete(t, b.x, key, had, api.OK)
	delete(b.l.has, key)
}

func (b *both) abort(t *testing.T) {
	t.Helper()
	b.x.Abort()
	b.l.has = maps.Clone(b.l.stands)
}

// commit holds a commit against the account, to the byte; it tells whether there was room.
func (b *both) commit(t *testing.T, note string) bool {
	t.Helper()
	a := b.l.made(t, b.p)
	for turn, n := range a.turns {
		b.turns[turn] += n
	}
	free, errno := b.p.Next(b.p.Free())
	wantErrno(t, "Next", errno, api.OK)
	blocks, acts, reached := b.d.Blocks(), b.d.Acts(), b.p.Reached()
	if len(a.toWrite()) > len(free) {
		b.turns["full"]++
		wantErrno(t, "Commit", b.x.Commit(note), api.ErrPagerFull)
		wantBlocks(t, b.d.Blocks(), blocks)
		return false
	}
	w := a.write(free)
	wantErrno(t, "Commit", b.x.Commit(note), api.OK)
	lay(blocks, w, b.p.Generation(), note)
	wantBlocks(t, b.d.Blocks(), blocks)
	if n := b.d.Acts() - acts; n != len(w.pages)+3 {
		t.Fatalf("Commit of %d pages: %d acts", len(w.pages), n)
	}
	wantPages(t, b.p, w.root, after(reached, w)...)
	b.l.stands = maps.Clone(b.l.has)
	return true
}

// lay lays what a commit writes on the blocks of an image.
func lay(blocks []string, w written, generation int, note string) {
	for _, page := range w.pages {
		page.Birth = generation
		blocks[page.Number] = blockOf(page)
	}
	blocks[generation%2] = headOf(generation, w.root, len(blocks), note)
}

// after are the pages that are reached behind a commit.
func after(reached []int, w written) []int {
	l := slices.DeleteFunc(reached, func(n int) bool { return slices.Contains(w.gone, n) })
	for _, page := range w.pages {
		l = append(l, page.Number)
	}
	slices.Sort(l)
	return l
}

func wantBlocks(t *testing.T, got, want []string) {
	t.Helper()
	for n := range want {
		if got[n] != want[n] {
			t.Fatalf("the block %d is %q, want %q", n, got[n], want[n])
		}
	}
}

// pin takes a pin, if there are not too many.
func (b *both) pin(t *testing.T) {
	t.Helper()
	if pin, errno := b.p.Pin(); errno == api.OK {
		b.pins[pin] = kept{b.p.Root(), maps.Clone(b.l.stands)}
	}
}

func (b *both) unpin(t *testing.T, pin int) {
	t.Helper()
	if _, is := b.pins[pin]; is {
		wantErrno(t, "Unpin", b.p.Unpin(pin), api.OK)
		delete(b.pins, pin)
	}
}

// wantSame holds all that a tree tells against the list, around some keys.
func (b *both) wantSame(t *testing.T, r *rand.Rand, style style) {
	t.Helper()
	wantChanges(t, b.x, b.l.changes()...)
	for range 5 {
		key, from, to, n := style.key(r), style.bound(r), style.bound(r), style.count(r)
		value, there := b.l.has[key]
		wantGet(t, b.x, key, value, there, api.OK)
		wantScan(t, b.x, from, to, n, rising(b.l.has, from, to, n), api.OK)
		past := kept{b.p.Root(), b.l.stands}
		wantPast(t, tree.At(b.p, past.root), past.stands, key, from, to, n)
		for _, k := range b.pins {
			wantPast(t, tree.At(b.p, k.root), k.stands, key, from, to, n)
		}
	}
}

// wantPast holds what a tree as it was tells against its pairs.
func wantPast(t *testing.T, x *tree.Past, stands map[string]string, key, from, to string, n int) {
	t.Helper()
	value, there := stands[key]
	wantGet(t, x, key, value, there, api.OK)
	wantScan(t, x, from, to, n, rising(stands, from, to, n), api.OK)
	wantBack(t, x, from, to, n, falling(stands, from, to, n), api.OK)
}

// style is how keys and values are drawn.
type style struct {
	keys   func(r *rand.Rand) string
	values func(r *rand.Rand) string
}

func (s style) key(r *rand.Rand) string { return s.keys(r) }

// bound is a key, a part of one, one that goes on, or nothing.
func (s style) bound(r *rand.Rand) string {
	key := s.keys(r)
	switch r.Intn(6) {
	case 0:
		return ""
	case 1:
		return key[:r.Intn(len(key))]
	case 2:
		return key + strings.Repeat("\x00", 1+r.Intn(40))
	}
	return key
}

// count is how many pairs are asked for.
func (s style) count(r *rand.Rand) int {
	return []int{0, 1, 2, r.Intn(30), every}[r.Intn(5)]
}

// styles are ways to draw: few short keys; long ones that have much in common; such of all lengths; some that are parted by few bytes, some by many; any bytes.
func styles() []style {
	lengths := func(l ...int) func(r *rand.Rand) string {
		return func(r *rand.Rand) string {
			return strings.Repeat(string([]byte{byte('0' + r.Intn(10))}), l[r.Intn(len(l))])
		}
	}
	short := func(r *rand.Rand) string {
		return key(string([]byte{byte('a' + r.Intn(26))}), 1) + strings.Repeat(string([]byte{byte('a' + r.Intn(5))}), r.Intn(3))
	}
	distant := func(r *rand.Rand) string { return far(r.Intn(676)) }
	mixed := func(r *rand.Rand) string {
		s := strings.Repeat("p", r.Intn(3)*17) + string([]byte{byte('a' + r.Intn(26)), byte('a' + r.Intn(26))})
		return s[:1+r.Intn(len(s))]
	}
	clustered := func(r *rand.Rand) string {
		s := key(string([]byte{byte('a' + r.Intn(26))}), 34) + string([]byte{byte('a' + r.Intn(4)), byte('a' + r.Intn(4))})
		return s[:[]int{1, 2, 36, 36, 36}[r.Intn(5)]]
	}
	bytes := func(r *rand.Rand) string {
		b := make([]byte, 1+r.Intn(3))
		for i := range b {
			b[i] = []byte{0, 1, 'a', 127, 128, 254, 255}[r.Intn(7)]
		}
		return string(b)
	}
	return []style{
		{short, lengths(0, 1, 99, 199, 200)},
		{distant, lengths(0, 20, 60, 100, 150, 200)},
		{distant, lengths(150, 180, 200)},
		{mixed, lengths(0, 50, 130, 200)},
		{mixed, lengths(190, 200)},
		{clustered, lengths(0, 50, 130, 200)},
		{clustered, lengths(130, 170, 200)},
		{bytes, lengths(0, 3, 30)},
	}
}

// act does one thing to both; fill says how many of ten changes put.
func (b *both) act(t *testing.T, r *rand.Rand, style style, fill int) {
	t.Helper()
	keys := slices.Sorted(maps.Keys(b.l.has))
	switch n := r.Intn(40); {
	case n < 28 && r.Intn(10) < fill:
		b.put(t, style.key(r), style.values(r))
	case n < 28 && len(keys) > 0 && r.Intn(8) > 0:
		b.delete(t, keys[r.Intn(len(keys))])
	case n < 28:
		b.delete(t, style.key(r))
	case n < 30 && len(keys) > 0:
		b.put(t, keys[r.Intn(len(keys))], style.values(r))
	case n < 32:
		b.putBack(t, r)
	case n == 32 && r.Intn(6) == 0:
		b.abort(t)
	case n == 33:
		b.pin(t)
	case n == 34:
		b.unpin(t, 1+r.Intn(4))
	}
}

// putBack makes one of the changes stand again as it stood.
func (b *both) putBack(t *testing.T, r *rand.Rand) {
	t.Helper()
	l := b.l.changes()
	if len(l) == 0 {
		return
	}
	key := l[r.Intn(len(l))]
	if value, stood := b.l.stands[key]; stood {
		b.put(t, key, value)
	} else {
		b.delete(t, key)
	}
}
