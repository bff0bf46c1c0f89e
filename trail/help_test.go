package trail_test

import (
	"math"
	"math/rand"
	"slices"
	"strings"
	"testing"

	"latchkey/api"
	"latchkey/disk"
	"latchkey/table"
	"latchkey/trail"
)

const (
	least    = math.MinInt
	most     = math.MaxInt
	lastTime = 1 << 40
	lastID   = 1 << 62
)

// many is a text so many times.
func many(n int, s string) string { return strings.Repeat(s, n) }

// noughts is the digest ahead of the first event of all.
var noughts = many(32, "\x00")

// digest is one whose bytes are of all kinds.
func digest(seed int) string {
	b := make([]byte, 32)
	rand.New(rand.NewSource(int64(seed))).Read(b)
	return string(b)
}

func wantErrno(t *testing.T, what string, got, want api.Errno) {
	t.Helper()
	if got != want {
		t.Fatalf("%s: %d, want %d", what, got, want)
	}
}

// began is a disk with a table without records.
func began(t *testing.T, blocks int) (*disk.Disk, *table.Table) {
	t.Helper()
	d, errno := disk.New(blocks)
	wantErrno(t, "New", errno, api.OK)
	wantErrno(t, "Format", table.Format(d), api.OK)
	return d, opened(t, d)
}

// opened is the table that stands on a disk.
func opened(t *testing.T, d *disk.Disk) *table.Table {
	t.Helper()
	x, errno := table.Open(d)
	wantErrno(t, "Open", errno, api.OK)
	return x
}

// kill lets a disk die.
func kill(t *testing.T, d *disk.Disk) {
	t.Helper()
	wantErrno(t, "Arm", d.Arm(1), api.OK)
	wantErrno(t, "Sync", d.Sync(), api.ErrDead)
}

// put lays a trail into the changes of a table, by layer 15 alone.
func put(t *testing.T, x *table.Table, c api.Chain, l []api.Event) {
	t.Helper()
	wantErrno(t, "PutChain", x.PutChain(c), api.OK)
	for _, e := range l {
		wantErrno(t, "PutEvent", x.PutEvent(e), api.OK)
	}
}

// wantTrail is that a table's changes have just this trail, as layer 15 tells it and as Read does, and that it is one that Verify takes.
func wantTrail(t *testing.T, what string, x *table.Table, c api.Chain, l []api.Event) {
	t.Helper()
	chain, errno := x.Chain()
	if chain != c || errno != api.OK {
		t.Fatalf("%s: Chain: %x, %d; want %x", what, chain, errno, c)
	}
	events, errno := x.Events()
	if !slices.Equal(events, l) || errno != api.OK {
		t.Fatalf("%s: Events: %v, %d; want %v", what, events, errno, l)
	}
	chain, events, errno = trail.Read(x)
	if chain != c || !slices.Equal(events, l) || errno != api.OK {
		t.Fatalf("%s: Read: %x, %v, %d; want %x, %v", what, chain, events, errno, c, l)
	}
	wantErrno(t, what+": Verify", trail.Verify(chain, events), api.OK)
}

// wantDead is that the trail of a table is not told.
func wantDead(t *testing.T, what string, x *table.Table) {
	t.Helper()
	c, l, errno := trail.Read(x)
	if c != (api.Chain{}) || len(l) != 0 || errno != api.ErrDead {
		t.Fatalf("%s: Read: %x, %v, %d", what, c, l, errno)
	}
	n, errno := trail.Note(x, api.EventKey, 0, "")
	if n != 0 || errno != api.ErrDead {
		t.Fatalf("%s: Note: %d, %d", what, n, errno)
	}
}

// wantNote is that Note answers so.
func wantNote(t *testing.T, x *table.Table, kind, family int, who string, number int, want api.Errno) {
	t.Helper()
	if n, errno := trail.Note(x, kind, family, who); n != number || errno != want {
		t.Fatalf("Note(%d, %d, %q): %d, %d; want %d, %d", kind, family, who, n, errno, number, want)
	}
}

// rightNames and wrongNames are what may stand as Who, and what may not.
func rightNames() []string {
	return []string{"", "a", "z", "0", "9", "-", "_", ".", "app", "a-b_c.9", many(16, "a"), many(16, ".")}
}

func wrongNames() []string {
	wrong := []string{"App", "APP", " ", "a ", " a", "a b", "é", "a\x00", "\x00", "\xff", many(17, "a"), many(300, "b"), many(1<<16, "c")}
	for b := range 256 {
		if !isNameByte(byte(b)) {
			wrong = append(wrong, string([]byte{'a', byte(b)}))
		}
	}
	return wrong
}

// some is an event that may be, as good as any.
func some(number int) api.Event {
	return api.Event{Number: number, Time: 5 + number%7, Kind: 1 + number%9, Family: number % 3, Who: []string{"", "app", "web.1"}[number%3]}
}

// someTrail is a trail of so many events behind a base, none of them like another one.
func someTrail(base, count int) (api.Chain, []api.Event) {
	hash := noughts
	if base > 0 {
		hash = digest(base)
	}
	var l []api.Event
	for n := range count {
		l = append(l, some(base+1+n))
	}
	return api.Chain{Base: base, Next: base + count + 1, BaseHash: hash, NextHash: shaAlong(hash, l)}, l
}

// drawnEvent is one that may be.
func drawnEvent(r *rand.Rand, number int) api.Event {
	names := rightNames()
	return api.Event{Number: number, Time: drawnOf(r, 0, 1, r.Intn(1000), lastTime), Kind: 1 + r.Intn(9), Family: drawnOf(r, 0, 1, r.Intn(1000), lastID), Who: names[r.Intn(len(names))]}
}

func drawnOf(r *rand.Rand, l ...int) int { return l[r.Intn(len(l))] }
