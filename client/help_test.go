package client_test

import (
	"math"
	"reflect"
	"slices"
	"strings"
	"testing"

	"latchkey/api"
	"latchkey/check"
	"latchkey/disk"
	"latchkey/pager"
	"latchkey/table"
	"latchkey/trail"
)

const (
	least    = math.MinInt
	most     = math.MaxInt
	lastTime = 1 << 40
	lastID   = 1 << 62
	worn     = 1 << 62 // the last generation of a store
)

// many is a text so many times.
func many(n int, s string) string { return strings.Repeat(s, n) }

// Three passwords.
var p, q, r = many(16, "p"), many(16, "q"), many(16, "r")

// app is a client as it is handed in.
func app() api.Client { return someClient("app") }

func someClient(name string) api.Client {
	return api.Client{Name: name, Scope: []string{"read"}, Idle: 50, Absolute: 120, Grace: 10, Life: 20}
}

func publicClient(name string) api.Client {
	c := someClient(name)
	c.Public = true
	return c
}

// greatest is a client that takes as many bytes as one may.
func greatest(name string) api.Client {
	c := someClient(name + many(16-len(name), "_"))
	c.Scope = []string{many(16, "a"), many(16, "b"), many(16, "c"), "ddddddddd"}
	c.Idle, c.Absolute, c.Grace, c.Life = lastTime, lastTime, lastTime, lastTime
	return c
}

func wantErrno(t *testing.T, what string, got, want api.Errno) {
	t.Helper()
	if got != want {
		t.Fatalf("%s: %d, want %d", what, got, want)
	}
}

// began is a disk with a table without records.
func began(t *testing.T, blocks int) (*disk.Disk, *table.Table) {
	t.Helper()
	d, errno := disk.New(blocks)
	wantErrno(t, "New", errno, api.OK)
	wantErrno(t, "Format", table.Format(d), api.OK)
	return d, opened(t, d)
}

// opened is the table that stands on a disk.
func opened(t *testing.T, d *disk.Disk) *table.Table {
	t.Helper()
	x, errno := table.Open(d)
	wantErrno(t, "Open", errno, api.OK)
	return x
}

// loaded is a disk on which these blocks last.
func loaded(t *testing.T, blocks []string) *disk.Disk {
	t.Helper()
	d, errno := disk.Load(blocks)
	wantErrno(t, "Load", errno, api.OK)
	return d
}

// aged is a disk on which the same stands, at another generation, which must not be an earlier one.
func aged(t *testing.T, d *disk.Disk, generation int) *disk.Disk {
	t.Helper()
	g, errno := pager.Mount(d)
	wantErrno(t, "Mount", errno, api.OK)
	head, errno := pager.PrintHead(generation, g.Root(), g.Size(), g.Note())
	wantErrno(t, "PrintHead", errno, api.OK)
	blocks := d.Blocks()
	blocks[generation%2] = head
	return loaded(t, blocks)
}

// kill lets a disk die.
func kill(t *testing.T, d *disk.Disk) {
	t.Helper()
	wantErrno(t, "Arm", d.Arm(1), api.OK)
	wantErrno(t, "Sync", d.Sync(), api.ErrDead)
}

// sameClient says whether two clients are the same; a list without names may be nil or not.
func sameClient(a, b api.Client) bool {
	if len(a.Scope) == 0 && len(b.Scope) == 0 {
		a.Scope, b.Scope = nil, nil
	}
	return reflect.DeepEqual(a, b)
}

// wantHas is that a table has just what a book has, as a table alone tells it.
func wantHas(t *testing.T, what string, x *table.Table, b *book, now int) {
	t.Helper()
	l, errno := x.Clients()
	if want := b.records(); errno != api.OK || !slices.EqualFunc(l, want, sameClient) {
		t.Fatalf("%s: the clients are %#v, %d; want %#v", what, l, errno, want)
	}
	c, events, errno := trail.Read(x)
	chain, all := b.trail()
	if errno != api.OK || c != chain || !slices.Equal(events, all) {
		t.Fatalf("%s: the trail is %x, %v, %d; want %x, %v", what, c, events, errno, chain, all)
	}
	wantErrno(t, what+": Verify", trail.Verify(c, events), api.OK)
	if x.Now() != now {
		t.Fatalf("%s: the time is %d, want %d", what, x.Now(), now)
	}
	wantNothingElse(t, what, x)
}

// wantNothingElse is that a table has no other records, and has given no ID.
func wantNothingElse(t *testing.T, what string, x *table.Table) {
	t.Helper()
	codes, _ := x.Codes()
	keys, _ := x.Keys()
	ending, errno := x.Ending(most, most)
	if len(codes)+len(keys)+len(ending) > 0 || errno != api.OK {
		t.Fatalf("%s: other records: %v, %v, %v, %d", what, codes, keys, ending, errno)
	}
	if id, errno := x.ID(); id != 1 || errno != api.OK {
		t.Fatalf("%s: the next ID is %d, %d", what, id, errno)
	}
	x.Abort()
}

// wantStands is that on a disk stands just what a book has, with the time of its last commit, and that a look at it finds nothing.
func wantStands(t *testing.T, what string, d *disk.Disk, b *book) {
	t.Helper()
	if len(d.Pending()) > 0 {
		t.Fatalf("%s: something is pending", what)
	}
	findings, errno := check.Image(d.Blocks())
	if len(findings) > 0 || errno != api.OK {
		t.Fatalf("%s: %v, %d", what, findings, errno)
	}
	other := loaded(t, d.Blocks())
	wantHas(t, what+", opened anew", opened(t, other), b, b.noted)
	if other.Acts() > 0 {
		t.Fatalf("%s: opening it did %d acts", what, other.Acts())
	}
}
