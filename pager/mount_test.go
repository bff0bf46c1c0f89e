package pager_test

import (
	"math/rand"
	"slices"
	"strings"
	"testing"

	"latchkey/api"
	"latchkey/disk"
	"latchkey/pager"
)

// wantMountRefused holds against why nothing is mounted; nothing is done then.
func wantMountRefused(t *testing.T, d *disk.Disk, want api.Errno) {
	t.Helper()
	was := stateOf(d)
	if p, errno := pager.Mount(d); p != nil || errno != want {
		t.Fatalf("Mount: %v, %d; want %d", p != nil, errno, want)
	}
	wantUntouched(t, "Mount", d, was)
}

// wantMounted holds a mounted store against these.
func wantMounted(t *testing.T, d *disk.Disk, generation, root int, note string, pages ...api.Page) {
	t.Helper()
	was := stateOf(d)
	p := mounted(t, d)
	wantUntouched(t, "Mount", d, was)
	var numbers []int
	for _, x := range pages {
		numbers = append(numbers, x.Number)
		wantRead(t, p, x)
	}
	slices.Sort(numbers)
	wantLast(t, p, generation, root, note, numbers...)
	wantRoom(t, p, d.Size()-2-len(pages), 0)
	if p.Doubt() || p.Size() != d.Size() {
		t.Fatalf("Doubt: %v, Size: %d", p.Doubt(), p.Size())
	}
	wantErrno(t, "Unpin", p.Unpin(1), api.ErrPagerPins)
	wantPin(t, p, 1, api.OK)
}

// G4: a disk that is dead, with a store and without one.
func TestMountDead(t *testing.T) {
	for _, l := range [][]string{stored(1, 0), stored(2, 7), slices.Repeat([]string{noughts}, 8)} {
		d := loaded(t, l)
		kill(t, d)
		wantMountRefused(t, d, api.ErrDead)
	}
	d := loaded(t, stored(1, 0))
	kill(t, d)
	revive(t, d)
	wantMounted(t, d, 1, 0, n16)
}

// G4: no head is right.
func TestMountNoHead(t *testing.T) {
	even, odd := headOf(2, 0, 8, n16), headOf(1, 0, 8, n16)
	for _, l := range [][]string{
		slices.Repeat([]string{noughts}, 8),
		noisy(8),
		image(8, odd, even),
		image(8, odd, noughts),
		image(8, noughts, even),
		image(8, headOf(2, 0, 9, n16), headOf(1, 0, 7, n16)),
		image(9, even, odd),
		image(4096, headOf(2, 0, 4095, n16), headOf(1, 0, 8, n16)),
		image(8, put(even, 63, "\x01"), put(odd, 0, "l")),
		image(8, noughts[:64]+even[:448], noughts[:448]+odd[:64]),
		image(8, headOf(0, 0, 8, n16), headOf(worn+1, 0, 8, n16)),
		image(8, headOf(2, 1, 8, n16), headOf(1, 8, 8, n16)),
	} {
		wantMountRefused(t, loaded(t, l), api.ErrPagerForm)
	}
}

// G4: one head alone is right, on either block; what stands behind its sector does not matter.
func TestMountOneHead(t *testing.T) {
	for _, generation := range []int{1, 2, 3, 4, 1 << 53, worn - 1, worn} {
		a := born(page(2, "a"), 1)
		wantMounted(t, loaded(t, stored(generation, 0)), generation, 0, n16)
		wantMounted(t, loaded(t, stored(generation, 2, a)), generation, 2, n16, a)
		l := stored(generation, 2, a)
		l[generation%2] = l[generation%2][:64] + strings.Repeat("x", 448)
		l[1-generation%2] = noisy(8)[3]
		wantMounted(t, loaded(t, l), generation, 2, n16, a)
	}
	wantMounted(t, loaded(t, image(8, headOf(2, 0, 9, n16), headOf(1, 0, 8, m16))), 1, 0, m16)
	wantMounted(t, loaded(t, image(8, headOf(2, 0, 8, n16), headOf(4, 0, 8, m16))), 2, 0, n16)
	wantMounted(t, loaded(t, image(8, headOf(3, 0, 8, n16), headOf(1, 0, 8, m16))), 1, 0, m16)
}

// G4: of two right heads the one with the greater generation counts, however far they are apart.
func TestMountTwoHeads(t *testing.T) {
	two, three := page(2, "two"), page(3, "three")
	for _, even := range []int{2, 4, 100, worn} {
		for _, odd := range []int{1, 3, 5, 99, 101, worn - 1} {
			d := loaded(t, image(8, headOf(even, 2, 8, n16), headOf(odd, 3, 8, m16), two, three))
			if even > odd {
				wantMounted(t, d, even, 2, n16, two)
			} else {
				wantMounted(t, d, odd, 3, m16, three)
			}
		}
	}
}

// G4: the head that counts does so, also where what it reaches is wrong, and the other one's is right.
func TestMountGreaterIsWrong(t *testing.T) {
	a := page(2, "a")
	wantMountRefused(t, loaded(t, image(8, headOf(2, 3, 8, n16), headOf(1, 2, 8, n16), a)), api.ErrPagerForm)
	wantMountRefused(t, loaded(t, image(8, headOf(2, 2, 8, n16), headOf(3, 3, 8, n16), a)), api.ErrPagerForm)
	wantMounted(t, loaded(t, image(8, headOf(2, 2, 8, n16), headOf(1, 3, 8, n16), a)), 2, 2, n16, a)
	wantMounted(t, loaded(t, image(8, headOf(2, 3, 8, m16), headOf(3, 2, 8, n16), a)), 3, 2, n16, a)
}

// G4: pages that are reached and are not right.
func TestMountWrongPages(t *testing.T) {
	root := page(2, "root", 5, 6)
	five, six := page(5, "five"), page(6, "six")
	right := stored(3, 2, root, five, six)
	wantMounted(t, loaded(t, right), 3, 2, n16, root, five, six)
	for _, c := range []struct {
		block int
		data  string
	}{
		{2, noughts}, {5, noughts}, {6, noughts},
		{2, blockOf(five)}, {5, blockOf(six)}, {6, blockOf(five)},
		{5, blockOf(page(7, "five"))}, {6, blockOf(page(4095, "six"))},
		{5, put(blockOf(five), 511, "?")}, {6, put(blockOf(six), 300, "x")},
		{6, checkedPage(put(blockOf(six), 300, "x"))},
		{6, checkedPage(put(blockOf(six), 4, by4(1<<31+6)))},
		{5, headOf(1, 0, 8, n16)},
		{2, blockOf(born(root, 4))}, {5, blockOf(born(five, 4))}, {6, blockOf(born(six, worn))}, {6, blockOf(born(six, 0))},
		{2, blockOf(page(2, "root", 5, 6, 8))}, {2, blockOf(page(2, "root", 8, 5, 6))}, {5, blockOf(page(5, "five", 9))},
		{5, blockOf(page(5, "five", 4095))}, {5, blockOf(page(5, "five", 1))}, {5, blockOf(page(5, "five", 0))}, {5, blockOf(page(5, "five", 4096))},
		{2, blockOf(page(2, "root", 5, 5))}, {2, blockOf(page(2, "root", 5, 6, 5))},
		{2, blockOf(page(2, "root", 2))}, {2, blockOf(page(2, "root", 5, 6, 2))},
		{5, blockOf(page(5, "five", 5))}, {5, blockOf(page(5, "five", 6))}, {5, blockOf(page(5, "five", 2))}, {6, blockOf(page(6, "six", 5))},
		{6, blockOf(page(6, "six", 7))},
	} {
		l := slices.Clone(right)
		l[c.block] = c.data
		wantMountRefused(t, loaded(t, l), api.ErrPagerForm)
	}
}

// G4: a Birth up to the head's generation is right.
func TestMountBirths(t *testing.T) {
	for _, generation := range []int{1, 2, 7, worn} {
		for _, birth := range []int{1, generation - 1, generation, generation + 1} {
			a := born(page(2, "a"), birth)
			if birth < 1 || birth > generation {
				wantMountRefused(t, loaded(t, stored(generation, 2, a)), api.ErrPagerForm)
			} else {
				wantMounted(t, loaded(t, stored(generation, 2, a)), generation, 2, n16, a)
			}
		}
	}
}

// G4: round in a ring, of all lengths: it ends.
func TestMountRings(t *testing.T) {
	for size := 1; size <= 6; size++ {
		var pages []api.Page
		for n := range size {
			pages = append(pages, page(2+n, "ring", 2+(n+1)%size))
		}
		for root := 2; root < 2+size; root++ {
			wantMountRefused(t, loaded(t, stored(3, root, pages...)), api.ErrPagerForm)
		}
	}
}

// G4: pages that nobody reaches are not looked at, whatever stands there.
func TestMountUnreached(t *testing.T) {
	l := stored(3, 2, page(2, "a"))
	l[3], l[4], l[5] = blockOf(page(3, "b", 2)), blockOf(page(4, "c", 4)), noisy(8)[5]
	wantMounted(t, loaded(t, l), 3, 2, n16, page(2, "a"))
	l[0] = headOf(4, 0, 8, m16)
	wantMounted(t, loaded(t, l), 4, 0, m16)
}

// G4: links need not rise, and pages of any Kind are pages.
func TestMountKinds(t *testing.T) {
	root := api.Page{Kind: 255, Number: 7, Birth: 3, Links: []int{6, 2, 5}, Body: "\x00"}
	two := api.Page{Kind: 77, Number: 2, Birth: 1, Links: []int{4, 3}}
	three, four, five, six := page(3, ""), page(4, "4"), page(5, body(488)), page(6, noughts[:488])
	wantMounted(t, loaded(t, stored(3, 7, root, two, three, four, five, six)), 3, 7, n16, root, two, three, four, five, six)
}

// G4: what is pending counts.
func TestMountPending(t *testing.T) {
	a, b := page(2, "a"), page(3, "b", 2)
	d := loaded(t, stored(1, 0))
	for block, data := range map[int]string{0: headOf(2, 3, 8, m16), 2: blockOf(a), 3: blockOf(b)} {
		wantErrno(t, "Write", d.Write(block, data), api.OK)
	}
	wantMounted(t, d, 2, 3, m16, a, b)
	d = loaded(t, stored(2, 3, a, b))
	wantErrno(t, "Write", d.Write(2, noughts), api.OK)
	wantMountRefused(t, d, api.ErrPagerForm)
}

// G4: the greatest disk, with as many pages as it may have: in one row, and under pages of 122 links.
func TestMountGreat(t *testing.T) {
	const blocks = 4096
	row, wide := make([]api.Page, 0, blocks), make([]api.Page, 0, blocks)
	for n := 2; n < blocks; n++ {
		p := page(n, "row")
		if n > 2 {
			p.Links = []int{n - 1}
		}
		row = append(row, p)
		q := page(n, "")
		for kid := (n-2)*122 + 3; kid < min(blocks, (n-1)*122+3); kid++ {
			q.Links = append(q.Links, kid)
		}
		wide = append(wide, q)
	}
	wantMounted(t, loaded(t, image(blocks, headOf(2, blocks-1, blocks, n16), noughts, row...)), 2, blocks-1, n16, row...)
	wantMounted(t, loaded(t, image(blocks, headOf(2, 2, blocks, n16), noughts, wide...)), 2, 2, n16, wide...)
	row[0].Links = []int{blocks - 1}
	wantMountRefused(t, loaded(t, image(blocks, headOf(2, blocks-1, blocks, n16), noughts, row...)), api.ErrPagerForm)
}

// G4: images drawn at random, right ones and wrong ones, against the chapter's words.
func TestAnyImages(t *testing.T) {
	r := rand.New(rand.NewSource(6))
	right := 0
	for range 8000 {
		l := anyImage(r)
		want, ok := standing(l)
		if !ok {
			wantMountRefused(t, loaded(t, l), api.ErrPagerForm)
			continue
		}
		right++
		pages := make([]api.Page, 0, len(want.pages))
		for _, p := range want.pages {
			pages = append(pages, p)
		}
		wantMounted(t, loaded(t, l), want.generation, want.root, want.note, pages...)
	}
	if right < 1600 || right > 6400 {
		t.Errorf("%d of the images are right", right)
	}
}
