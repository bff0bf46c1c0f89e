package client_test

import (
	"fmt"
	"slices"
	"testing"

	"latchkey/api"
	"latchkey/client"
	"latchkey/disk"
	"latchkey/table"
)

// call is one of the four, as it is asked of a table and of a book.
type call struct {
	what string
	do   func(x *table.Table) (api.Client, api.Errno)
	book func(b *book) (api.Client, api.Errno)
}

func register(c api.Client, secret string, now int) call {
	return call{
		fmt.Sprintf("Register(%#v, %q, %d)", c, secret, now),
		func(x *table.Table) (api.Client, api.Errno) {
			return api.Client{}, client.Register(x, c, secret, now)
		},
		func(b *book) (api.Client, api.Errno) { return api.Client{}, b.Register(c, secret, now) },
	}
}

func renew(name, secret string, keep, now int) call {
	return call{
		fmt.Sprintf("Renew(%q, %q, %d, %d)", name, secret, keep, now),
		func(x *table.Table) (api.Client, api.Errno) {
			return api.Client{}, client.Renew(x, name, secret, keep, now)
		},
		func(b *book) (api.Client, api.Errno) { return api.Client{}, b.Renew(name, secret, keep, now) },
	}
}

func turn(name string, off bool, now int) call {
	return call{
		fmt.Sprintf("Switch(%q, %v, %d)", name, off, now),
		func(x *table.Table) (api.Client, api.Errno) {
			return api.Client{}, client.Switch(x, name, off, now)
		},
		func(b *book) (api.Client, api.Errno) { return api.Client{}, b.Switch(name, off, now) },
	}
}

func ask(name, secret string, now int) call {
	return call{
		fmt.Sprintf("Check(%q, %q, %d)", name, secret, now),
		func(x *table.Table) (api.Client, api.Errno) { return client.Check(x, name, secret, now) },
		func(b *book) (api.Client, api.Errno) { return b.Check(name, secret, now) },
	}
}

// both is a table on its disk, and the book that it must be like.
type both struct {
	t *testing.T
	d *disk.Disk
	x *table.Table
	b *book
}

func newBoth(t *testing.T, blocks int) *both {
	t.Helper()
	d, x := began(t, blocks)
	return &both{t, d, x, newBook()}
}

// withApp is one with the client app, whose password is p, at the time 100.
func withApp(t *testing.T) *both {
	t.Helper()
	b := newBoth(t, 64)
	b.want(register(app(), p, 100), api.OK)
	return b
}

// state is all that an act or a commit would change.
type state struct {
	acts, generation int
	note             string
	blocks           []string
}

func (b *both) state() state {
	return state{b.d.Acts(), b.x.Pager().Generation(), b.x.Pager().Note(), b.d.Blocks()}
}

func (s state) same(o state) bool {
	return s.acts == o.acts && s.generation == o.generation && s.note == o.note && slices.Equal(s.blocks, o.blocks)
}

// call asks both for the same, and holds all that there is then against the book: what changed something was one commit, all else did no act.
func (b *both) call(c call) api.Errno {
	b.t.Helper()
	before, events := b.state(), len(b.b.events)
	want, errno := c.book(b.b)
	b.answered(c, want, errno)
	after := b.state()
	if len(b.b.events) == events && !after.same(before) {
		b.t.Fatalf("%s: %d acts", c.what, after.acts-before.acts)
	}
	if len(b.b.events) > events && (after.generation != before.generation+1 || after.acts < before.acts+4) {
		b.t.Fatalf("%s: %d commits, %d acts", c.what, after.generation-before.generation, after.acts-before.acts)
	}
	b.look(c.what)
	return errno
}

// answered is that the table answers so.
func (b *both) answered(c call, want api.Client, errno api.Errno) {
	b.t.Helper()
	if got, e := c.do(b.x); e != errno || !sameClient(got, want) {
		b.t.Fatalf("%s: %#v, %d; want %#v, %d", c.what, got, e, want, errno)
	}
}

// look holds the table, and what stands on its disk, against the book.
func (b *both) look(what string) {
	b.t.Helper()
	wantHas(b.t, what, b.x, b.b, b.b.now)
	wantStands(b.t, what, b.d, b.b)
}

// want is a call of which the test itself says what is answered, too.
func (b *both) want(c call, errno api.Errno) {
	b.t.Helper()
	wantErrno(b.t, c.what, b.call(c), errno)
}

// wantDead is that a call answers ErrDead, and does no act.
func (b *both) wantDead(c call) { b.wantRefused(c, api.ErrDead) }

// wantRefused is that a call is refused by a table that can not do it, ahead of anything that the book knows of: nothing is changed.
func (b *both) wantRefused(c call, errno api.Errno) {
	b.t.Helper()
	before := b.state()
	b.answered(c, api.Client{}, errno)
	if after := b.state(); !after.same(before) {
		b.t.Fatalf("%s: %d acts", c.what, after.acts-before.acts)
	}
}

// reopen opens the table anew: the time is that of the last commit.
func (b *both) reopen() {
	b.t.Helper()
	b.x = opened(b.t, b.d)
	b.b.now = b.b.noted
	b.look("opened anew")
}
