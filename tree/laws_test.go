package tree_test

import (
	"fmt"
	"maps"
	"math/rand"
	"slices"
	"testing"

	"latchkey/api"
	"latchkey/disk"
	"latchkey/tree"
)

// T7, T9, P8, P10: whatever is put, deleted, committed, forgotten and pinned, a tree has what a list would have, and what is written is what the account of T7 says, to the byte.
func TestScripts(t *testing.T) {
	t.Parallel()
	for seed, style := range slices.Repeat(styles(), 2) {
		r := rand.New(rand.NewSource(int64(seed)))
		b := newBoth(t, []int{20, 80, 400}[r.Intn(3)])
		for round := range 30 {
			fill := []int{9, 5, 1}[round/4%3] // it grows, stays, and shrinks
			for range 1 + r.Intn([]int{2, 15, 120}[r.Intn(3)]) {
				b.act(t, r, style, fill)
			}
			b.wantSame(t, r, style)
			if !b.commit(t, fmt.Sprintf("%016d", round)) {
				wantChanges(t, b.x, b.l.changes()...)
				b.abort(t)
			}
			wantSound(t, b.p)
			b.wantSame(t, r, style)
		}
	}
}

// T7: great trees, in which all comes by that may become of a node.
func TestTurns(t *testing.T) {
	t.Parallel()
	turns := map[string]int{}
	all := styles()
	for seed, style := range map[int64]style{2: all[1], 29: all[5], 45: all[5], 49: all[5]} { // such as bring what is rare
		r := rand.New(rand.NewSource(seed))
		b := newBoth(t, 190)
		b.turns = turns
		fill := 0
		for range 120 {
			for range 1 + r.Intn(60) {
				b.churn(t, r, style, fill)
			}
			if n := len(b.l.has); n < 70 {
				fill = 8
			} else if n > 220 {
				fill = 2
			}
			if !b.commit(t, n16) {
				b.abort(t)
			}
		}
		wantSound(t, b.p)
		keys := slices.Sorted(maps.Keys(b.l.has))
		b.goOver(t, r.Perm(len(keys)), 20, func(n int) { b.delete(t, keys[n]) })
	}
	for _, turn := range allTurns() {
		if turns[turn] == 0 {
			t.Errorf("no node came by: %s", turn)
		}
	}
}

// churn puts, deletes, or gives a key that is there another value.
func (b *both) churn(t *testing.T, r *rand.Rand, style style, fill int) {
	t.Helper()
	keys := slices.Sorted(maps.Keys(b.l.has))
	switch {
	case len(keys) > 0 && r.Intn(2) == 0:
		b.put(t, keys[r.Intn(len(keys))], style.values(r))
	case r.Intn(10) < fill:
		b.put(t, style.key(r), style.values(r))
	case len(keys) > 0:
		b.delete(t, keys[r.Intn(1+r.Intn(len(keys)))]) // rather one of the first: first kids become poor so
	}
}

// allTurns is all that becomes of nodes.
func allTurns() []string {
	l := []string{"root parted: leaf", "root parted: inner", "root without keys", "empty", "great by another key", "poor by another key"}
	for _, kind := range []string{"leaf ", "inner "} {
		for _, turn := range []string{"parted", "joined left", "joined right", "joined left and parted", "joined right and parted"} {
			l = append(l, kind+turn)
		}
	}
	return l
}

// T7, T9: trees grow from the empty one to several levels, and shrink back to it, in rising, falling and mixed order, by commits of one change and of many.
func TestGrowAndShrink(t *testing.T) {
	t.Parallel()
	r := rand.New(rand.NewSource(40))
	orders := []func(n int) []int{
		func(n int) []int { return numbers(n) },
		func(n int) []int { l := numbers(n); slices.Reverse(l); return l },
		r.Perm,
	}
	for i, order := range orders {
		for _, each := range []int{1, 7, 200} {
			b := newBoth(t, 200)
			b.goOver(t, order(90), each, func(n int) { b.put(t, far(n), val(200-n)) })
			if h, errno := b.x.Height(); h < 3 || errno != api.OK {
				t.Fatalf("Height: %d, %d", h, errno)
			}
			b.goOver(t, orders[(i+1)%3](90), each, func(n int) { b.delete(t, far(n)) })
			wantHeight(t, b.x, 0, api.OK)
			wantPages(t, b.p, 0)
		}
	}
}

func numbers(n int) []int {
	var l []int
	for i := range n {
		l = append(l, i)
	}
	return l
}

// goOver does something with each number, and commits behind so many, and at the end.
func (b *both) goOver(t *testing.T, l []int, each int, do func(n int)) {
	t.Helper()
	for part := range slices.Chunk(l, each) {
		for _, n := range part {
			do(n)
		}
		if !b.commit(t, n16) {
			t.Fatal("there is no room")
		}
		wantSound(t, b.p)
	}
}

// T9: what is committed hangs on the changes as they are in the end, not on how they came.
func TestDetours(t *testing.T) {
	t.Parallel()
	for seed, style := range slices.Repeat(styles(), 2) {
		r := rand.New(rand.NewSource(int64(seed)))
		stood, has := map[string]string{}, map[string]string{}
		for range 80 {
			stood[style.key(r)] = style.values(r)
			has[style.key(r)] = style.values(r)
		}
		for key, value := range stood {
			if r.Intn(2) == 0 {
				has[key] = value
			}
		}
		var want []string
		for way := range 4 {
			s := having(t, 400, rising(stood, "", "", every))
			r := rand.New(rand.NewSource(int64(way)))
			makeSo(t, s.x, r, style, stood, has, way > 0)
			wantCommit(t, s.x, api.OK)
			if got := s.d.Blocks(); way == 0 {
				want = got
			} else {
				wantBlocks(t, got, want)
			}
		}
	}
}

// makeSo makes a tree have some pairs: in a random order, and by detours, if these are asked for.
func makeSo(t *testing.T, x *tree.Tree, r *rand.Rand, style style, stood, has map[string]string, detours bool) {
	t.Helper()
	all := maps.Clone(stood)
	maps.Copy(all, has)
	for n := 0; detours && n < 100; n++ {
		key := style.key(r)
		all[key] = ""
		x.Put(key, style.values(r))
		if n == 50 {
			x.Abort()
		}
		if r.Intn(2) == 0 {
			x.Delete(style.key(r))
		}
	}
	keys := slices.Sorted(maps.Keys(all))
	if detours {
		for key := range stood {
			keys = append(keys, key)
		}
		r.Shuffle(len(keys), func(i, j int) { keys[i], keys[j] = keys[j], keys[i] })
	}
	for key := range stood { // those that were deleted on the way
		all[key] = ""
	}
	for _, key := range append(keys, slices.Sorted(maps.Keys(all))...) {
		if value, is := has[key]; is {
			x.Put(key, value)
		} else {
			x.Delete(key)
		}
	}
	wantScan(t, x, "", "", every, rising(has, "", "", every), api.OK)
}

// keeps are any sectors of what is pending.
func keeps(r *rand.Rand, d *disk.Disk) []api.Keep {
	var l []api.Keep
	for _, n := range r.Perm(len(d.Pending())) {
		if r.Intn(4) > 0 {
			l = append(l, api.Keep{N: n, Sectors: []int{0, 1, 255, r.Intn(256)}[r.Intn(4)]})
		}
	}
	return l
}

// T9, P2: behind a death at whatever act, and a crash of whatever sectors, what stands is what the last Commit that was answered made, or the one under way, as a whole.
func TestCrashes(t *testing.T) {
	t.Parallel()
	found := map[bool]int{}
	for seed, style := range slices.Repeat(styles(), 5) {
		r := rand.New(rand.NewSource(int64(seed)))
		b := newBoth(t, 120)
		for range 30 {
			for range 1 + r.Intn(12) {
				b.act(t, r, style, 6)
			}
			b.pins = map[int]kept{} // they do not outlast the pager
			changes := b.l.changes()
			free, _ := b.p.Next(b.p.Free())
			a := b.l.made(t, b.p)
			if len(a.toWrite()) > len(free) {
				b.abort(t)
				continue
			}
			wantErrno(t, "Arm", b.d.Arm(1+r.Intn(len(a.toWrite())+3)), api.OK)
			wantErrno(t, "Commit", b.x.Commit(m16), api.ErrDead)
			wantChanges(t, b.x, changes...)
			b.wantNothing(t)
			wantErrno(t, "Crash", b.d.Crash(keeps(r, b.d)), api.OK)
			b.wantNothing(t)
			generation := b.p.Generation()
			b.store = mounted(t, b.d)
			made := b.p.Generation() > generation
			found[made]++
			if made {
				b.l.stands = b.l.has
			}
			b.abort(t)
			wantSound(t, b.p)
			wantScan(t, b.x, "", "", every, rising(b.l.stands, "", "", every), api.OK)
			b.wantSame(t, r, style)
		}
	}
	if found[false] == 0 || found[true] == 0 {
		t.Errorf("commits that were lost, and such that were found: %v", found)
	}
}

// wantNothing says that all that asks the disk answers ErrDead, behind the errors of its arguments.
func (b *both) wantNothing(t *testing.T) {
	t.Helper()
	wantDead(t, b.store)
}

func wantDead(t *testing.T, s *store) {
	t.Helper()
	wantGet(t, s.x, "a", "", false, api.ErrDead)
	wantGet(t, s.x, "", "", false, api.ErrTreeKey)
	wantPut(t, s.x, "a", "", api.ErrDead)
	wantPut(t, s.x, "", val(201), api.ErrTreeKey)
	wantPut(t, s.x, "a", val(201), api.ErrTreeValue)
	wantDelete(t, s.x, "a", false, api.ErrDead)
	wantDelete(t, s.x, "", false, api.ErrTreeKey)
	wantScan(t, s.x, "", "", 0, nil, api.ErrDead)
	wantScan(t, s.x, "b", "a", 1, nil, api.ErrDead)
	wantScan(t, s.x, "", "", -1, nil, api.ErrArg)
	wantHeight(t, s.x, 0, api.ErrDead)
	wantErrno(t, "Commit", s.x.Commit(n16), api.ErrDead)
	wantErrno(t, "Commit", s.x.Commit(""), api.ErrArg)
	for _, root := range []int{s.p.Root(), 0, 1, most} {
		x := tree.At(s.p, root)
		wantGet(t, x, "a", "", false, api.ErrDead)
		wantGet(t, x, key("a", 37), "", false, api.ErrTreeKey)
		wantScan(t, x, "", "", 0, nil, api.ErrDead)
		wantScan(t, x, "", "", every+1, nil, api.ErrArg)
		wantBack(t, x, "", "", 0, nil, api.ErrDead)
		wantBack(t, x, "", "", every+1, nil, api.ErrArg)
	}
}
