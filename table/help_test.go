package table_test

import (
	"math"
	"math/big"
	"math/rand"
	"reflect"
	"slices"
	"strings"
	"testing"

	"latchkey/api"
	"latchkey/disk"
	"latchkey/pager"
	"latchkey/record"
	"latchkey/table"
	"latchkey/tree"
)

const (
	least    = math.MinInt
	most     = math.MaxInt
	lastTime = 1 << 40
	lastID   = 1 << 62
	lastGen  = 1 << 30
	lastKey  = 1 << 30
	worn     = 1 << 62 // the last generation of a store
)

// many is a text so many times.
func many(n int, s string) string { return strings.Repeat(s, n) }

// by is a number by so many bytes, the highest first.
func by(size, n int) string {
	return string(big.NewInt(int64(n)).FillBytes(make([]byte, size)))
}

// digest is one whose bytes are of all kinds.
func digest(seed int) string {
	b := make([]byte, 32)
	rand.New(rand.NewSource(int64(seed))).Read(b)
	return string(b)
}

func wantErrno(t *testing.T, what string, got, want api.Errno) {
	t.Helper()
	if got != want {
		t.Fatalf("%s: %d, want %d", what, got, want)
	}
}

// blank is a disk of noughts.
func blank(t *testing.T, blocks int) *disk.Disk {
	t.Helper()
	d, errno := disk.New(blocks)
	wantErrno(t, "New", errno, api.OK)
	return d
}

// loaded is a disk on which these blocks last.
func loaded(t *testing.T, blocks []string) *disk.Disk {
	t.Helper()
	d, errno := disk.Load(blocks)
	wantErrno(t, "Load", errno, api.OK)
	return d
}

// began is a disk with a table without records.
func began(t *testing.T, blocks int) (*disk.Disk, *table.Table) {
	t.Helper()
	d := blank(t, blocks)
	wantErrno(t, "Format", table.Format(d), api.OK)
	return d, opened(t, d)
}

// opened is the table that stands on a disk.
func opened(t *testing.T, d *disk.Disk) *table.Table {
	t.Helper()
	x, errno := table.Open(d)
	wantErrno(t, "Open", errno, api.OK)
	if x == nil {
		t.Fatal("Open: OK, and no table")
	}
	return x
}

// wantRefused is that Open answers an error, no table, and does no act.
func wantRefused(t *testing.T, what string, d *disk.Disk, want api.Errno) {
	t.Helper()
	acts, pending, blocks := d.Acts(), d.Pending(), d.Blocks()
	if x, errno := table.Open(d); x != nil || errno != want {
		t.Fatalf("Open, %s: %v, %d, want %d", what, x, errno, want)
	}
	if d.Acts() != acts || !slices.Equal(d.Pending(), pending) || !slices.Equal(d.Blocks(), blocks) {
		t.Fatalf("Open, %s: %d acts", what, d.Acts()-acts)
	}
}

// kill lets a disk die.
func kill(t *testing.T, d *disk.Disk) {
	t.Helper()
	wantErrno(t, "Arm", d.Arm(1), api.OK)
	wantErrno(t, "Sync", d.Sync(), api.ErrDead)
}

// noteOf is the note of a next ID and a time.
func noteOf(t *testing.T, next, now int) string {
	t.Helper()
	note, errno := record.PrintNote(next, now)
	wantErrno(t, "PrintNote", errno, api.OK)
	return note
}

// laid is a disk whose tree has these pairs, with that note, whether that is a table or not.
func laid(t *testing.T, blocks int, pairs map[string]string, note string) *disk.Disk {
	t.Helper()
	d := blank(t, blocks)
	wantErrno(t, "Format", pager.Format(d, note), api.OK)
	change(t, d, pairs)
	return d
}

// change makes the pairs of a disk's tree just these, behind the table's back, with the same note.
func change(t *testing.T, d *disk.Disk, pairs map[string]string) {
	t.Helper()
	p, errno := pager.Mount(d)
	wantErrno(t, "Mount", errno, api.OK)
	x := tree.Open(p)
	for key := range standing(t, d) {
		if _, stays := pairs[key]; !stays {
			_, errno := x.Delete(key)
			wantErrno(t, "Delete", errno, api.OK)
		}
	}
	for key, value := range pairs {
		wantErrno(t, "Put", x.Put(key, value), api.OK)
	}
	wantErrno(t, "Commit", x.Commit(p.Note()), api.OK)
}

// standing are the pairs that stand in the tree on a disk.
func standing(t *testing.T, d *disk.Disk) map[string]string {
	t.Helper()
	p, errno := pager.Mount(d)
	wantErrno(t, "Mount", errno, api.OK)
	pairs := map[string]string{}
	for from := ""; ; {
		l, errno := tree.Open(p).Scan(from, "", 4096)
		wantErrno(t, "Scan", errno, api.OK)
		for _, pair := range l {
			pairs[pair.Key] = pair.Value
			from = pair.Key + "\x00"
		}
		if len(l) < 4096 {
			return pairs
		}
	}
}

// simple is an answer whose lists without elements are nil, for these may be nil or not.
func simple(v any) any {
	list := reflect.ValueOf(v)
	if list.Kind() == reflect.Slice {
		all := []any{}
		for n := range list.Len() {
			all = append(all, simple(list.Index(n).Interface()))
		}
		return all
	}
	if list.Kind() == reflect.Struct {
		turned := reflect.New(list.Type()).Elem()
		turned.Set(list)
		if f := turned.FieldByName("Scope"); f.IsValid() && f.Len() == 0 {
			f.SetZero()
		}
		return turned.Interface()
	}
	return v
}

// same says whether two answers are the same.
func same(a, b any) bool { return reflect.DeepEqual(simple(a), simple(b)) }

// isNothing says whether an answer is zero, or a list without elements.
func isNothing(v any) bool {
	value := reflect.ValueOf(v)
	return value.IsZero() || value.Kind() == reflect.Slice && value.Len() == 0
}

// headOf is a head's sector and what stands behind it.
func headOf(t *testing.T, generation, root, blocks int, note string) string {
	t.Helper()
	s, errno := pager.PrintHead(generation, root, blocks, note)
	wantErrno(t, "PrintHead", errno, api.OK)
	return s
}

// aged is a disk on which the same stands, at another generation. No page is older than the one at which it was written, so it must not be an earlier one.
func aged(t *testing.T, d *disk.Disk, generation int) *disk.Disk {
	t.Helper()
	p, errno := pager.Mount(d)
	wantErrno(t, "Mount", errno, api.OK)
	blocks := d.Blocks()
	blocks[generation%2] = headOf(t, generation, p.Root(), p.Size(), p.Note())
	return loaded(t, blocks)
}
