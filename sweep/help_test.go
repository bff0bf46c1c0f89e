package sweep_test

import (
	"fmt"
	"math"
	"reflect"
	"slices"
	"strings"
	"testing"

	"latchkey/api"
	"latchkey/check"
	"latchkey/disk"
	"latchkey/pager"
	"latchkey/table"
	"latchkey/trail"
)

const (
	least    = math.MinInt
	most     = math.MaxInt
	lastTime = 1 << 40
	lastID   = 1 << 62
	worn     = 1 << 62 // the last generation of a store
)

// many is a text so many times.
func many(n int, s string) string { return strings.Repeat(s, n) }

// secret is the n-th of some.
func secret(n int) string { return fmt.Sprintf("%024d", n) }

// Some verifiers, and the challenge of the first one.
var (
	v, w = many(43, "v"), many(43, "w")
	ofV  = challengeOf(v)
)

// names is a scope.
func names(l ...string) []string { return l }

func someClient(name string) api.Client {
	return api.Client{Name: name, Public: true, Scope: names("read", "write"), Idle: 50, Absolute: 120, Grace: 10, Life: 20}
}

// three are the clients app and web, and off, which is switched off.
func three() []api.Client {
	off := someClient("off")
	off.Off = true
	web := someClient("web")
	web.Scope, web.Life = names("admin", "read", "write"), 30
	return []api.Client{someClient("app"), off, web}
}

// eight is a scope of eight names whose text has 60 bytes.
func eight() []string {
	return names("a", "b", "c", "d", "e", many(16, "f"), many(16, "g"), many(16, "h"))
}

// greatest is a client that takes as many bytes as one may.
func greatest(name string) api.Client {
	return api.Client{
		Name: name + many(16-len(name), "_"), Hash: digestOf("password"), Old: digestOf("another"), Until: lastTime,
		Scope: eight(), Idle: lastTime, Absolute: lastTime, Grace: lastTime, Life: lastTime,
	}
}

func wantErrno(t *testing.T, what string, got, want api.Errno) {
	t.Helper()
	if got != want {
		t.Fatalf("%s: %d, want %d", what, got, want)
	}
}

// loaded is a disk on which these blocks last.
func loaded(t *testing.T, blocks []string) *disk.Disk {
	t.Helper()
	d, errno := disk.Load(blocks)
	wantErrno(t, "Load", errno, api.OK)
	return d
}

// opened is the table that stands on a disk.
func opened(t *testing.T, d *disk.Disk) *table.Table {
	t.Helper()
	x, errno := table.Open(d)
	wantErrno(t, "Open", errno, api.OK)
	return x
}

// aged is a disk on which the same stands, at another generation, which must not be an earlier one.
func aged(t *testing.T, d *disk.Disk, generation int) *disk.Disk {
	t.Helper()
	g, errno := pager.Mount(d)
	wantErrno(t, "Mount", errno, api.OK)
	head, errno := pager.PrintHead(generation, g.Root(), g.Size(), g.Note())
	wantErrno(t, "PrintHead", errno, api.OK)
	blocks := d.Blocks()
	blocks[generation%2] = head
	return loaded(t, blocks)
}

// kill lets a disk die.
func kill(t *testing.T, d *disk.Disk) {
	t.Helper()
	wantErrno(t, "Arm", d.Arm(1), api.OK)
	wantErrno(t, "Sync", d.Sync(), api.ErrDead)
}

// same says whether two things are the same; a list without elements may be nil or not.
func same(a, b any) bool {
	return reflect.DeepEqual(a, b) || fmt.Sprintf("%#v", plain(a)) == fmt.Sprintf("%#v", plain(b))
}

// plain is a thing whose scope, if it has no names, is nil.
func plain(a any) any {
	tidy := func(l []string) []string {
		if len(l) == 0 {
			return nil
		}
		return l
	}
	switch x := a.(type) {
	case api.Issued:
		x.Scope = tidy(x.Scope)
		return x
	case api.Info:
		x.Scope = tidy(x.Scope)
		return x
	case api.Family:
		x.Scope = tidy(x.Scope)
		return x
	case api.Client:
		x.Scope = tidy(x.Scope)
		return x
	case api.Code:
		x.Scope = tidy(x.Scope)
		return x
	}
	return a
}

// everything is all that a table has, as it tells it, but for its next ID.
type everything struct {
	clients  []api.Client
	families []api.Family
	tokens   []api.Token
	codes    []api.Code
	keys     []api.Key
	chain    api.Chain
	events   []api.Event
	now      int
}

// toldOf is everything, found by the table's own indexes.
func toldOf(t *testing.T, x *table.Table) everything {
	t.Helper()
	var e everything
	var errno [6]api.Errno
	e.clients, errno[0] = x.Clients()
	e.codes, errno[1] = x.Codes()
	e.keys, errno[2] = x.Keys()
	e.chain, e.events, errno[3] = trail.Read(x)
	ids, last := x.Ending(most, most)
	errno[4] = last
	slices.Sort(ids)
	for _, id := range ids {
		f, failed := x.Family(id)
		l, failing := x.Tokens(id)
		errno[5] = max(errno[5], failed, failing)
		e.families, e.tokens = append(e.families, f), append(e.tokens, l...)
	}
	if errno != [6]api.Errno{} {
		t.Fatalf("the table tells %v", errno)
	}
	e.now = x.Now()
	return e
}

// differ says where two tables are not the same.
func (e everything) differ(o everything) string {
	switch {
	case !slices.EqualFunc(e.clients, o.clients, func(a, b api.Client) bool { return same(a, b) }):
		return fmt.Sprintf("the clients are %v, want %v", e.clients, o.clients)
	case !slices.EqualFunc(e.families, o.families, func(a, b api.Family) bool { return same(a, b) }):
		return fmt.Sprintf("the families are %#v, want %#v", e.families, o.families)
	case !slices.Equal(e.tokens, o.tokens):
		return fmt.Sprintf("the tokens are %#v, want %#v", e.tokens, o.tokens)
	case !slices.EqualFunc(e.codes, o.codes, func(a, b api.Code) bool { return same(a, b) }):
		return fmt.Sprintf("the codes are %#v, want %#v", e.codes, o.codes)
	case !slices.Equal(e.keys, o.keys):
		return "other keys"
	case e.chain != o.chain || !slices.Equal(e.events, o.events):
		return fmt.Sprintf("the trail is %x, %v; want %x, %v", e.chain, e.events, o.chain, o.events)
	case e.now != o.now:
		return fmt.Sprintf("the time is %d, want %d", e.now, o.now)
	}
	return ""
}

// nextOf is a table's next ID; what was begun is forgotten by that.
func nextOf(x *table.Table) int {
	id, errno := x.ID()
	x.Abort()
	if errno == api.ErrTableWorn {
		return lastID + 1
	}
	return id
}

// wantHas is that a table has just what a book has; what was begun counts.
func wantHas(t *testing.T, what string, x *table.Table, b *book) {
	t.Helper()
	e := toldOf(t, x)
	if d := e.differ(b.everything()); d != "" {
		t.Fatalf("%s: %s", what, d)
	}
	wantErrno(t, what+": Verify", trail.Verify(e.chain, e.events), api.OK)
	for _, subject := range b.subjects() {
		if l, errno := x.Subject(subject); errno != api.OK || !slices.Equal(l, b.familiesOf(subject)) {
			t.Fatalf("%s: the families of %s are %v, %d", what, subject, l, errno)
		}
	}
}

// wantStands is that on a disk stands just what a book has, with the time of its last commit; that a look at it finds nothing, and that no page leaks.
func wantStands(t *testing.T, what string, d *disk.Disk, b *book) {
	t.Helper()
	if len(d.Pending()) > 0 {
		t.Fatalf("%s: something is pending", what)
	}
	findings, errno := check.Image(d.Blocks())
	if len(findings) > 0 || errno != api.OK {
		t.Fatalf("%s: %v, %d", what, findings, errno)
	}
	other := loaded(t, d.Blocks())
	x := opened(t, other)
	stood := b.copied()
	stood.now = b.noted
	wantHas(t, what+", opened anew", x, stood)
	if next := nextOf(x); next != b.next || other.Acts() > 0 {
		t.Fatalf("%s: the next ID is %d, want %d; %d acts", what, next, b.next, other.Acts())
	}
}
