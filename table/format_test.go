package table_test

import (
	"slices"
	"testing"

	"latchkey/api"
	"latchkey/disk"
	"latchkey/pager"
	"latchkey/table"
)

// wantFormat says what Format answers, and how many acts it does.
func wantFormat(t *testing.T, what string, d *disk.Disk, want api.Errno, acts int) {
	t.Helper()
	was := d.Acts()
	if errno := table.Format(d); errno != want || d.Acts() != was+acts {
		t.Fatalf("Format, %s: %d, %d acts; want %d, %d", what, errno, d.Acts()-was, want, acts)
	}
}

// firstNote is the next ID 1 by 8 bytes, the time 0 by 6, and two noughts.
var firstNote = many(7, "\x00") + "\x01" + many(8, "\x00")

// B1: three acts, and what they leave, byte by byte.
func TestFormat(t *testing.T) {
	for _, blocks := range []int{8, 9, 64, 4096} {
		d := blank(t, blocks)
		wantFormat(t, "noughts", d, api.OK, 3)
		want := slices.Repeat([]string{many(512, "\x00")}, blocks)
		want[1] = headOf(t, 1, 0, blocks, firstNote)
		if !slices.Equal(d.Blocks(), want) || len(d.Pending()) > 0 {
			t.Fatalf("%d blocks: other ones than a head of nothing", blocks)
		}
		wantFormat(t, "a table is there", d, api.ErrPagerThere, 0)
		wantTable(t, "without records", d, lists{next: 1}, 0)
	}
}

// B1: just as layer 9's, on whatever stood there.
func TestFormatAsThePagerDoes(t *testing.T) {
	for what, turn := range map[string]func(l []string){
		"noughts":              func(l []string) {},
		"other bytes":          func(l []string) { l[0], l[1], l[5] = many(512, "x"), many(512, "y"), many(512, "z") },
		"a head":               func(l []string) { l[0] = headOf(t, 2, 0, 12, many(16, "n")) },
		"two heads":            func(l []string) { l[0], l[1] = headOf(t, 2, 0, 12, firstNote), headOf(t, 3, 0, 12, firstNote) },
		"a head that is torn":  func(l []string) { l[0] = headOf(t, 2, 0, 12, firstNote)[:40] + many(472, "x") },
		"on the other block":   func(l []string) { l[1] = headOf(t, 2, 0, 12, firstNote) },
		"of another size":      func(l []string) { l[0] = headOf(t, 2, 0, 13, firstNote) },
		"a head without pages": func(l []string) { l[0] = headOf(t, 2, 7, 12, firstNote) },
	} {
		blocks := slices.Repeat([]string{many(512, "\x00")}, 12)
		turn(blocks)
		one, two := loaded(t, blocks), loaded(t, blocks)
		a, b := table.Format(one), pager.Format(two, firstNote)
		if a != b || one.Acts() != two.Acts() || !slices.Equal(one.Blocks(), two.Blocks()) {
			t.Fatalf("%s: %d, %d acts; the pager: %d, %d acts", what, a, one.Acts(), b, two.Acts())
		}
	}
}

// B1: of a dead disk, whatever stands on it.
func TestFormatDead(t *testing.T) {
	d := blank(t, 8)
	kill(t, d)
	wantFormat(t, "dead", d, api.ErrDead, 0)
	d, _ = began(t, 8)
	kill(t, d)
	wantFormat(t, "dead, with a table", d, api.ErrDead, 0)
}

// B1, B11: it dies in each of the three acts, and each choice of sectors stays: there is a table without records, or none, and then Format lays one.
func TestFormatDies(t *testing.T) {
	for act := 1; act <= 3; act++ {
		d := blank(t, 8)
		wantErrno(t, "Arm", d.Arm(act), api.OK)
		wantFormat(t, "dying", d, api.ErrDead, act-1)
		whole := 0
		crashes(t, d, 256, 1, func(what string, d *disk.Disk) {
			x, errno := table.Open(d)
			switch {
			case errno == api.OK && x != nil:
				whole++
				wantFormat(t, what, d, api.ErrPagerThere, 0)
			case errno == api.ErrPagerForm && x == nil:
				wantFormat(t, what, d, api.OK, 3)
			default:
				t.Fatalf("%s: Open: %d", what, errno)
			}
			wantStands(t, what, d, lists{next: 1}, 0)
		})
		if whole > 0 != (act == 3) {
			t.Errorf("death at the act %d: a table stands %d times", act, whole)
		}
	}
}
