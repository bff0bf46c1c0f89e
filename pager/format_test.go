package pager_test

import (
	"slices"
	"strings"
	"testing"

	"latchkey/api"
	"latchkey/disk"
	"latchkey/pager"
)

// wantFormatRefused holds against why no store is laid; nothing is done then.
func wantFormatRefused(t *testing.T, d *disk.Disk, note string, want api.Errno) {
	t.Helper()
	was := stateOf(d)
	wantErrno(t, "Format", pager.Format(d, note), want)
	wantUntouched(t, "Format", d, was)
}

// wantLaid holds a disk against what Format made of an image.
func wantLaid(t *testing.T, d *disk.Disk, was []string, note string) {
	t.Helper()
	want := slices.Clone(was)
	want[0], want[1] = noughts, headOf(1, 0, len(was), note)
	if !slices.Equal(d.Blocks(), want) {
		t.Fatal("other blocks last")
	}
	wantPending(t, d)
	p := mounted(t, d)
	wantLast(t, p, 1, 0, note)
	wantRoom(t, p, len(was)-2, 0)
}

// noisy is an image of which no block is noughts, and on which no head is right.
func noisy(blocks int) []string {
	l := make([]string, blocks)
	for n := range l {
		l[n] = strings.Repeat(string([]byte{byte(n + 1), 'x'}), 256)
	}
	return l
}

// G3: three acts, on disks of all sizes, whatever stands there.
func TestFormat(t *testing.T) {
	for _, blocks := range []int{8, 9, 100, 4095, 4096} {
		for _, l := range [][]string{slices.Repeat([]string{noughts}, blocks), noisy(blocks)} {
			d := loaded(t, l)
			wantErrno(t, "Format", pager.Format(d, m16), api.OK)
			if d.Acts() != 3 || d.Dead() {
				t.Errorf("%d acts", d.Acts())
			}
			wantLaid(t, d, l, m16)
		}
	}
}

// G3: the note may be any 16 bytes.
func TestFormatNotes(t *testing.T) {
	for _, note := range []string{n16, noughts[:16], strings.Repeat("\xff", 16), "0123456789abcdef"} {
		d := fresh(t, 8)
		wantErrno(t, "Format", pager.Format(d, note), api.OK)
		wantLaid(t, d, slices.Repeat([]string{noughts}, 8), note)
	}
}

// wrongNotes have not 16 bytes.
func wrongNotes() []string {
	return []string{"", "n", n16[:15], n16 + "n", n16 + n16, strings.Repeat("n", 65552)}
}

// G3: each of the errors, and several at once: the note ahead of a death, a death ahead of a store.
func TestFormatRefused(t *testing.T) {
	there := loaded(t, stored(1, 0))
	deadThere := loaded(t, stored(1, 0))
	kill(t, deadThere)
	dead := fresh(t, 8)
	kill(t, dead)
	for _, note := range wrongNotes() {
		for _, d := range []*disk.Disk{fresh(t, 8), there, dead, deadThere} {
			wantFormatRefused(t, d, note, api.ErrArg)
		}
	}
	wantFormatRefused(t, dead, n16, api.ErrDead)
	wantFormatRefused(t, deadThere, n16, api.ErrDead)
	wantFormatRefused(t, there, n16, api.ErrPagerThere)
	revive(t, deadThere)
	wantFormatRefused(t, deadThere, n16, api.ErrPagerThere)
	revive(t, dead)
	wantErrno(t, "Format", pager.Format(dead, n16), api.OK)
}

// G3: a head is right on either block, also if what it reaches is wrong, and if it is pending.
func TestFormatOverAHead(t *testing.T) {
	for _, l := range [][]string{
		stored(1, 0),
		stored(2, 0),
		stored(worn, 0),
		stored(worn-1, 0),
		stored(3, 2, page(2, "a")),
		stored(3, 7),
		stored(2, 3, page(3, "a", 3)),
		image(8, headOf(4, 0, 8, n16), headOf(3, 0, 8, n16)),
		image(8, headOf(2, 0, 8, n16)[:64]+noisy(8)[0][:448], noisy(8)[1]),
	} {
		wantFormatRefused(t, loaded(t, l), m16, api.ErrPagerThere)
	}
	d := fresh(t, 8)
	wantErrno(t, "Write", d.Write(1, headOf(5, 0, 8, n16)), api.OK)
	wantFormatRefused(t, d, m16, api.ErrPagerThere)
}

// G3: heads that are not right are no store: those on the wrong block, those of another Size, those of which a bit is wrong.
func TestFormatOverNoHead(t *testing.T) {
	for _, l := range [][]string{
		image(8, headOf(1, 0, 8, n16), headOf(2, 0, 8, n16)),
		image(8, headOf(2, 0, 9, n16), headOf(1, 0, 4096, n16)),
		image(9, headOf(2, 0, 8, n16), headOf(1, 0, 8, n16)),
		image(8, put(headOf(2, 0, 8, n16), 63, "\x01"), put(headOf(1, 0, 8, n16), 36, "crc?")),
		image(8, noughts, noughts, page(2, "a"), page(3, "b")),
	} {
		d := loaded(t, l)
		wantErrno(t, "Format", pager.Format(d, m16), api.OK)
		wantLaid(t, d, l, m16)
	}
	d := loaded(t, stored(1, 0))
	wantErrno(t, "Write", d.Write(1, noughts), api.OK)
	wantErrno(t, "Format", pager.Format(d, m16), api.OK)
	wantLaid(t, d, slices.Repeat([]string{noughts}, 8), m16)
}

// G3: the acts in their order, with a death in each of them: what is pending then is what was written ahead of it.
func TestFormatDies(t *testing.T) {
	zero, one := api.Write{Block: 0, Data: noughts}, api.Write{Block: 1, Data: headOf(1, 0, 8, m16)}
	for n, pending := range [][]api.Write{{}, {zero}, {zero, one}} {
		d := loaded(t, noisy(8))
		wantErrno(t, "Arm", d.Arm(n+1), api.OK)
		wantErrno(t, "Format", pager.Format(d, m16), api.ErrDead)
		wantPending(t, d, pending...)
		if !d.Dead() || d.Acts() != n || !slices.Equal(d.Blocks(), noisy(8)) {
			t.Errorf("dies in the act %d: %d acts", n+1, d.Acts())
		}
		wantFormatRefused(t, d, m16, api.ErrDead)
		revive(t, d)
		wantErrno(t, "Format", pager.Format(d, m16), api.OK)
		wantLaid(t, d, noisy(8), m16)
	}
	d := fresh(t, 8)
	wantErrno(t, "Arm", d.Arm(4), api.OK)
	wantErrno(t, "Format", pager.Format(d, m16), api.OK)
	wantErrno(t, "Sync", d.Sync(), api.ErrDead)
}

// G3, G4: whichever sectors stay of a Format that died: a store stands if the head's first one did, else none does.
func TestFormatTorn(t *testing.T) {
	for _, l := range [][]string{slices.Repeat([]string{noughts}, 8), noisy(8)} {
		for _, zero := range []int{0, 1, 2, 254, 255} {
			for one := range 256 {
				d := loaded(t, l)
				wantErrno(t, "Arm", d.Arm(3), api.OK)
				wantErrno(t, "Format", pager.Format(d, n16), api.ErrDead)
				wantErrno(t, "Crash", d.Crash([]api.Keep{{N: 1, Sectors: one}, {N: 0, Sectors: zero}}), api.OK)
				if one%2 == 0 {
					wantMountRefused(t, d, api.ErrPagerForm)
					wantErrno(t, "Format", pager.Format(d, m16), api.OK)
					wantLaid(t, d, l, m16)
					continue
				}
				wantLast(t, mounted(t, d), 1, 0, n16)
				wantErrno(t, "Format", pager.Format(d, m16), api.ErrPagerThere)
			}
		}
	}
}
