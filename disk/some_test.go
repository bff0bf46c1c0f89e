package disk_test

import (
	"math/rand"
	"strings"
	"testing"

	"latchkey/api"
	"latchkey/disk"
)

// someData is 512 bytes, of which some sectors are like those of other blocks.
func someData(r *rand.Rand) string {
	var b strings.Builder
	for range 8 {
		b.WriteString(strings.Repeat(string(rune('a'+r.Intn(26))), 64))
	}
	return b.String()
}

// someBytes is mostly a block's bytes, else one of another size.
func someBytes(r *rand.Rand) string {
	if r.Intn(12) > 0 {
		return someData(r)
	}
	return strings.Repeat("b", []int{0, 1, 63, 64, 511, 513, 1024}[r.Intn(7)])
}

// someBlock is mostly one of so many, else none.
func someBlock(r *rand.Rand, size int) int {
	if r.Intn(10) > 0 {
		return r.Intn(size)
	}
	return []int{-1, size, size + 1, -size, least, most, least + 1, 1 << 32, 4096}[r.Intn(9)]
}

// someKeeps names some of so many pending writes, in any order.
func someKeeps(r *rand.Rand, pending int) []api.Keep {
	var l []api.Keep
	for _, n := range r.Perm(pending) {
		if r.Intn(3) > 0 {
			l = append(l, api.Keep{N: n, Sectors: r.Intn(256)})
		}
	}
	return l
}

// spoilt is a list that may not be any more.
func spoilt(r *rand.Rand, l []api.Keep, pending int) []api.Keep {
	wrong := []api.Keep{{N: -1}, {N: pending, Sectors: 3}, {N: least}, {N: most, Sectors: 255}}
	if pending > 0 {
		wrong = append(wrong, api.Keep{N: r.Intn(pending), Sectors: 256}, api.Keep{N: r.Intn(pending), Sectors: -1}, api.Keep{N: 0, Sectors: least}, api.Keep{N: 0, Sectors: most})
	}
	if len(l) > 0 {
		wrong = append(wrong, l[r.Intn(len(l))])
	}
	at := r.Intn(len(l) + 1)
	out := append([]api.Keep{}, l[:at]...)
	return append(append(out, wrong[r.Intn(len(wrong))]), l[at:]...)
}

// someImages are the texts of a disk.
func someImages(r *rand.Rand) []string {
	l := make([]string, 8+r.Intn(5))
	for n := range l {
		l[n] = someData(r)
	}
	return l
}

// step does one thing to a disk and to its model, and holds the answers against one another.
func step(t *testing.T, r *rand.Rand, d *disk.Disk, m *model) {
	t.Helper()
	switch n := r.Intn(20); {
	case n < 11:
		block, data := someBlock(r, len(m.lasts)), someBytes(r)
		wantErrno(t, "Write", d.Write(block, data), m.write(block, data))
	case n < 14:
		wantErrno(t, "Sync", d.Sync(), m.sync())
	case n < 17:
		acts := []int{-1, least, 0, 1, 2, 3, 4, 5, 6, most, most - 1}[r.Intn(11)]
		wantErrno(t, "Arm", d.Arm(acts), m.arm(acts))
	default:
		l := someKeeps(r, len(m.pending()))
		if r.Intn(2) > 0 {
			l = spoilt(r, l, len(m.pending()))
		}
		wantErrno(t, "Crash", d.Crash(l), m.crash(l))
	}
}
