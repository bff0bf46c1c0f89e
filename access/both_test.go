package access_test

import (
	"fmt"
	"reflect"
	"slices"
	"testing"

	"latchkey/access"
	"latchkey/api"
	"latchkey/check"
	"latchkey/disk"
	"latchkey/pager"
	"latchkey/record"
	"latchkey/table"
	"latchkey/trail"
)

// toldOf is all that a table tells; what was begun counts, but for the next ID.
func toldOf(t *testing.T, x *table.Table) everything {
	t.Helper()
	var e everything
	var errno [7]api.Errno
	e.clients, errno[0] = x.Clients()
	e.codes, errno[1] = x.Codes()
	e.keys, errno[2] = x.Keys()
	e.chain, e.events, errno[3] = trail.Read(x)
	e.next, e.noted, errno[4] = record.ParseNote(x.Pager().Note())
	ids, last := x.Ending(most, most)
	errno[5] = last
	slices.Sort(ids)
	for _, id := range ids {
		f, failed := x.Family(id)
		l, failing := x.Tokens(id)
		errno[6] = max(errno[6], failed, failing)
		e.families, e.tokens = append(e.families, f), append(e.tokens, l...)
	}
	if errno != [7]api.Errno{} {
		t.Fatalf("the table tells %v", errno)
	}
	e.now = x.Now()
	return e
}

// differ says where two tables are not the same.
func (e everything) differ(o everything) string {
	switch {
	case !slices.Equal(e.keys, o.keys):
		return fmt.Sprintf("the keys are %v, want %v", e.keys, o.keys)
	case e.chain != o.chain || !slices.Equal(e.events, o.events):
		return fmt.Sprintf("the trail is %x, %v; want %x, %v", e.chain, e.events, o.chain, o.events)
	case e.now != o.now || e.noted != o.noted:
		return fmt.Sprintf("the time is %d, %d was noted; want %d, %d", e.now, e.noted, o.now, o.noted)
	case e.next != o.next:
		return fmt.Sprintf("the next ID is %d, want %d", e.next, o.next)
	case !slices.Equal(e.tokens, o.tokens) || !slices.EqualFunc(e.families, o.families, func(a, b api.Family) bool { return reflect.DeepEqual(a, b) }):
		return "other families, or tokens"
	case !reflect.DeepEqual(e.clients, o.clients) || !reflect.DeepEqual(e.codes, o.codes):
		return "other clients, or codes"
	}
	return ""
}

// wantHas is that a table has just that.
func wantHas(t *testing.T, what string, x *table.Table, want everything) {
	t.Helper()
	e := toldOf(t, x)
	if d := e.differ(want); d != "" {
		t.Fatalf("%s: %s", what, d)
	}
	wantErrno(t, what+": Verify", trail.Verify(e.chain, e.events), api.OK)
	if p := x.Pager(); len(p.Reached())+p.Free() != p.Size()-2 {
		t.Fatalf("%s: %d pages are reached, %d free, of %d blocks", what, len(p.Reached()), p.Free(), p.Size())
	}
}

// wantStands is that on a disk stands just that, as of the last commit; that a look at it finds nothing, and that it is opened without an act.
func wantStands(t *testing.T, what string, d *disk.Disk, want everything) {
	t.Helper()
	if len(d.Pending()) > 0 {
		t.Fatalf("%s: something is pending", what)
	}
	findings, errno := check.Image(d.Blocks())
	if len(findings) > 0 || errno != api.OK {
		t.Fatalf("%s: %v, %d", what, findings, errno)
	}
	other := loaded(t, d.Blocks())
	want.now = want.noted
	wantHas(t, what+", opened anew", opened(t, other), want)
	if other.Acts() > 0 {
		t.Fatalf("%s: %d acts to open it", what, other.Acts())
	}
}

// both is a table on its disk, and all that it must have.
type both struct {
	t *testing.T
	d *disk.Disk
	x *table.Table
	e everything
}

// lay is something that is put into a table.
type lay func(x *table.Table) api.Errno

func layKey(k api.Key) lay { return func(x *table.Table) api.Errno { return x.PutKey(k) } }

// layKeys are the keys from 1 on, each of which counts up to one of these times.
func layKeys(untils ...int) []lay {
	var l []lay
	for n, until := range untils {
		l = append(l, layKey(api.Key{Number: n + 1, Secret: secret(n + 1), From: 0, Until: until}))
	}
	return l
}

func layClient(c api.Client) lay { return func(x *table.Table) api.Errno { return x.PutClient(c) } }

// laySee lets the time be one.
func laySee(now int) lay {
	return func(x *table.Table) api.Errno {
		x.See(now)
		return api.OK
	}
}

func layFamily(f api.Family) lay {
	return func(x *table.Table) api.Errno {
		if errno := x.PutFamily(f); errno != api.OK {
			return errno
		}
		return x.PutToken(api.Token{ID: f.Token, Family: f.ID, Gen: 1, Hash: digestOf("text"), Minted: f.Created})
	}
}

// app is a client whose families are short.
func app() api.Client {
	return api.Client{Name: "app", Public: true, Scope: names("read", "write"), Idle: 50, Absolute: 120, Grace: 10, Life: 20}
}

// family is one of app's, of ann, with one token, that was begun at 20, and ends at 60 if nobody shows that.
func family(id int) api.Family {
	return api.Family{
		ID: id, Client: "app", Subject: "ann", Scope: names("read", "write"), Created: 20, Used: 20,
		Idle: 40, Absolute: 99, Gen: 1, Token: id + 1, State: api.Active,
	}
}

// founded is a table with that, at 100 as the next ID, whose trail goes on behind a base.
func founded(t *testing.T, blocks, base int, lays ...lay) *both {
	t.Helper()
	d, errno := disk.New(blocks)
	wantErrno(t, "New", errno, api.OK)
	note, errno := record.PrintNote(100, 0)
	wantErrno(t, "PrintNote", errno, api.OK)
	wantErrno(t, "Format", pager.Format(d, note), api.OK)
	x := opened(t, d)
	if base > 0 {
		wantErrno(t, "PutChain", x.PutChain(api.Chain{Base: base, Next: base + 1, BaseHash: digestOf("base"), NextHash: digestOf("base")}), api.OK)
	}
	for n, l := range lays {
		wantErrno(t, fmt.Sprintf("the %d-th that is laid", n), l(x), api.OK)
	}
	wantErrno(t, "Commit", x.Commit(), api.OK)
	return &both{t, d, x, toldOf(t, x)}
}

// twin is the same on another disk.
func (b *both) twin(t *testing.T) *both {
	t.Helper()
	d := loaded(t, b.d.Blocks())
	e := b.e
	e.now = e.noted
	return &both{t, d, opened(t, d), e}
}

// state is what each act and each commit changes.
type state struct {
	acts, generation int
	note             string
}

func (b *both) state() state {
	return state{b.d.Acts(), b.x.Pager().Generation(), b.x.Pager().Note()}
}

// newKey asks the table and the model for a key, and holds all that there is then against the model: what made one was one commit, all else did no act.
func (b *both) newKey(secret string, keep, now int) (int, api.Errno) {
	b.t.Helper()
	what := fmt.Sprintf("NewKey(%.60q, %d, %d)", secret, keep, now)
	before := b.state()
	want, wantErr := b.e.NewKey(secret, keep, now)
	n, errno := access.NewKey(b.x, secret, keep, now)
	if n != want || errno != wantErr {
		b.t.Fatalf("%s: %d, %d; want %d, %d", what, n, errno, want, wantErr)
	}
	after := b.state()
	if errno != api.OK && after != before || errno == api.OK && (after.generation != before.generation+1 || after.acts < before.acts+4) {
		b.t.Fatalf("%s: %d commits, %d acts", what, after.generation-before.generation, after.acts-before.acts)
	}
	b.look(what)
	return n, errno
}

// look holds the table, and what stands on its disk, against the model.
func (b *both) look(what string) {
	b.t.Helper()
	wantHas(b.t, what, b.x, b.e)
	wantStands(b.t, what, b.d, b.e)
}

// makes is a key that is made, with that number.
func (b *both) makes(number int, secret string, keep, now int) {
	b.t.Helper()
	if n, errno := b.newKey(secret, keep, now); n != number || errno != api.OK {
		b.t.Fatalf("NewKey(%q, %d, %d): %d, %d; want %d", secret, keep, now, n, errno, number)
	}
}

// refuses is one that is not made, for a reason that the model knows.
func (b *both) refuses(secret string, keep, now int, want api.Errno) {
	b.t.Helper()
	if _, errno := b.newKey(secret, keep, now); errno != want {
		b.t.Fatalf("NewKey(%.60q, %d, %d): %d, want %d", secret, keep, now, errno, want)
	}
}

// unable is one that is not made for a reason of which the model knows nothing: what stands on the disk stays, and the clock has seen the reading.
func (b *both) unable(secret string, keep, now int, want api.Errno) {
	b.t.Helper()
	before, blocks := b.state(), b.d.Blocks()
	n, errno := access.NewKey(b.x, secret, keep, now)
	if b.e.see(now); n != 0 || errno != want || b.state() != before || !slices.Equal(b.d.Blocks(), blocks) || b.x.Now() != b.e.now {
		b.t.Fatalf("NewKey(%.60q, %d, %d) at %d: %d, %d; want %d", secret, keep, now, b.x.Now(), n, errno, want)
	}
}

// worth asks the table and the model what a text is worth: no act is done. It says whether it is worth something.
func (b *both) worth(issuer, s string, now int) bool {
	b.t.Helper()
	before := b.state()
	want := b.e.Worth(issuer, s, now)
	if i, errno := access.Worth(b.x, issuer, s, now); !sameInfo(i, want) || errno != api.OK || b.state() != before || b.x.Now() != b.e.now {
		b.t.Fatalf("Worth(%q, %.300q, %d): %#v, %d; want %#v", issuer, s, now, i, errno, want)
	}
	return want.Active
}

// sameInfo says whether they are the same; a scope without names may be nil or not.
func sameInfo(a, b api.Info) bool {
	equal := slices.Equal(a.Scope, b.Scope)
	a.Scope, b.Scope = nil, nil
	return equal && fmt.Sprintf("%#v", a) == fmt.Sprintf("%#v", b)
}

// dead is that a table whose disk is dead, or that is in doubt, does not tell what a text is worth.
func (b *both) dead(s string, now int) {
	b.t.Helper()
	i, errno := access.Worth(b.x, "home", s, now)
	if b.e.see(now); !reflect.DeepEqual(i, api.Info{}) || errno != api.ErrDead || b.x.Now() != b.e.now {
		b.t.Fatalf("Worth(%.60q, %d) at %d: %#v, %d", s, now, b.x.Now(), i, errno)
	}
}

// reopen opens the table anew: the time is that of the last commit.
func (b *both) reopen() {
	b.t.Helper()
	b.x = opened(b.t, b.d)
	b.e.now = b.e.noted
	b.look("opened anew")
}
