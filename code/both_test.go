package code_test

import (
	"fmt"
	"strings"
	"testing"

	"latchkey/api"
	"latchkey/client"
	"latchkey/code"
	"latchkey/disk"
	"latchkey/grant"
	"latchkey/pager"
	"latchkey/record"
	"latchkey/table"
)

// answer is what a call answers; what it does not answer is zero.
type answer struct {
	text   string
	issued api.Issued
	info   api.Info
	count  int
	errno  api.Errno
}

func (a answer) same(b answer) bool {
	return a.text == b.text && same(a.issued, b.issued) && same(a.info, b.info) && a.count == b.count && a.errno == b.errno
}

// call is one of those that commit, or change nothing, as it is asked of a table and of a book.
type call struct {
	what string
	do   func(x *table.Table) answer
	book func(b *book) answer
}

func approve(client, subject string, scope []string, challenge string, life, now int, secret string) call {
	return call{
		fmt.Sprintf("Approve(%q, %q, %q, %.60q, %d, %d, %q)", client, subject, scope, challenge, life, now, secret),
		func(x *table.Table) answer {
			text, errno := code.Approve(x, client, subject, scope, challenge, life, now, secret)
			return answer{text: text, errno: errno}
		},
		func(b *book) answer {
			text, errno := b.Approve(client, subject, scope, challenge, life, now, secret)
			return answer{text: text, errno: errno}
		},
	}
}

func redeem(client, text, verifier string, now int, secret string) call {
	return call{
		fmt.Sprintf("Redeem(%q, %.60q, %.60q, %d, %q)", client, text, verifier, now, secret),
		func(x *table.Table) answer {
			a, errno := code.Redeem(x, client, text, verifier, now, secret)
			return answer{issued: a, errno: errno}
		},
		func(b *book) answer {
			a, errno := b.Redeem(client, text, verifier, now, secret)
			return answer{issued: a, errno: errno}
		},
	}
}

func issue(client, subject string, scope []string, now int, secret string) call {
	return call{
		fmt.Sprintf("Issue(%q, %q, %q, %d, %q)", client, subject, scope, now, secret),
		func(x *table.Table) answer {
			a, errno := grant.Issue(x, client, subject, scope, now, secret)
			return answer{issued: a, errno: errno}
		},
		func(b *book) answer {
			a, errno := b.Issue(client, subject, scope, now, secret)
			return answer{issued: a, errno: errno}
		},
	}
}

func rotate(client, text string, scope []string, now int, secret string) call {
	return call{
		fmt.Sprintf("Rotate(%q, %q, %q, %d, %q)", client, text, scope, now, secret),
		func(x *table.Table) answer {
			a, errno := grant.Rotate(x, client, text, scope, now, secret)
			return answer{issued: a, errno: errno}
		},
		func(b *book) answer {
			a, errno := b.Rotate(client, text, scope, now, secret)
			return answer{issued: a, errno: errno}
		},
	}
}

func revoke(client, text string, now int) call {
	return call{
		fmt.Sprintf("Revoke(%q, %q, %d)", client, text, now),
		func(x *table.Table) answer { return answer{errno: grant.Revoke(x, client, text, now)} },
		func(b *book) answer { return answer{errno: b.Revoke(client, text, now)} },
	}
}

func revokeAll(subject string, now int) call {
	return call{
		fmt.Sprintf("RevokeAll(%q, %d)", subject, now),
		func(x *table.Table) answer {
			n, errno := grant.RevokeAll(x, subject, now)
			return answer{count: n, errno: errno}
		},
		func(b *book) answer {
			n, errno := b.RevokeAll(subject, now)
			return answer{count: n, errno: errno}
		},
	}
}

func introspect(text string, now int) call {
	return call{
		fmt.Sprintf("Introspect(%q, %d)", text, now),
		func(x *table.Table) answer {
			a, errno := grant.Introspect(x, text, now)
			return answer{info: a, errno: errno}
		},
		func(b *book) answer {
			a, errno := b.Introspect(text, now)
			return answer{info: a, errno: errno}
		},
	}
}

// turn is a client switched off, or on.
func turn(name string, off bool, now int) call {
	return call{
		fmt.Sprintf("Switch(%q, %v, %d)", name, off, now),
		func(x *table.Table) answer { return answer{errno: client.Switch(x, name, off, now)} },
		func(b *book) answer { return answer{errno: b.Switch(name, off, now)} },
	}
}

// both is a table on its disk, and the book that it must be like.
type both struct {
	t *testing.T
	d *disk.Disk
	x *table.Table
	b *book
}

// founded is a table with these clients, whose next ID is given, and whose trail goes on behind a base.
func founded(t *testing.T, blocks, next, base int, clients ...api.Client) *both {
	t.Helper()
	d, errno := disk.New(blocks)
	wantErrno(t, "New", errno, api.OK)
	note, errno := record.PrintNote(next, 0)
	wantErrno(t, "PrintNote", errno, api.OK)
	wantErrno(t, "Format", pager.Format(d, note), api.OK)
	x := opened(t, d)
	if base > 0 {
		wantErrno(t, "PutChain", x.PutChain(api.Chain{Base: base, Next: base + 1, BaseHash: digestOf("base"), NextHash: digestOf("base")}), api.OK)
	}
	for _, c := range clients {
		wantErrno(t, "PutClient", x.PutClient(c), api.OK)
	}
	wantErrno(t, "Commit", x.Commit(), api.OK)
	b := newBook(base, clients...)
	b.next = next
	return &both{t, d, x, b}
}

// newBoth is one with app, off and web.
func newBoth(t *testing.T) *both {
	t.Helper()
	return founded(t, 128, 1, 0, three()...)
}

// twin is the same on another disk.
func (b *both) twin(t *testing.T) *both {
	t.Helper()
	d := loaded(t, b.d.Blocks())
	x := opened(t, d)
	c := b.b.copied()
	c.now = c.noted
	return &both{t, d, x, c}
}

// state is what each act and each commit changes.
type state struct {
	acts, generation int
	note             string
}

func (b *both) state() state {
	return state{b.d.Acts(), b.x.Pager().Generation(), b.x.Pager().Note()}
}

// call asks both for the same, and holds all that there is then against the book: what changed something was one commit, all else did no act.
func (b *both) call(c call) answer {
	b.t.Helper()
	a := b.quick(c)
	b.look(c.what)
	return a
}

// quick asks both for the same, and does not look at all that there is.
func (b *both) quick(c call) answer {
	b.t.Helper()
	before, commits := b.state(), b.b.commits
	want := c.book(b.b)
	b.answered(c, want)
	after := b.state()
	switch b.b.commits - commits {
	case 0:
		if after != before {
			b.t.Fatalf("%s: %d acts", c.what, after.acts-before.acts)
		}
	case 1:
		if after.generation != before.generation+1 || after.acts < before.acts+4 {
			b.t.Fatalf("%s: %d commits, %d acts", c.what, after.generation-before.generation, after.acts-before.acts)
		}
	default:
		b.t.Fatal("the test is wrong")
	}
	return want
}

// answered is that the table answers so.
func (b *both) answered(c call, want answer) {
	b.t.Helper()
	if got := c.do(b.x); !got.same(want) {
		b.t.Fatalf("%s: %#v, want %#v", c.what, got, want)
	}
}

// look holds the table, and what stands on its disk, against the book.
func (b *both) look(what string) {
	b.t.Helper()
	wantHas(b.t, what, b.x, b.b)
	if next := nextOf(b.x); next != b.b.next {
		b.t.Fatalf("%s: the next ID is %d, want %d", what, next, b.b.next)
	}
	wantStands(b.t, what, b.d, b.b)
}

// want is a call of which the test itself says which error is answered, too.
func (b *both) want(c call, errno api.Errno) answer {
	b.t.Helper()
	a := b.call(c)
	wantErrno(b.t, c.what, a.errno, errno)
	return a
}

// gives is a call that gives a text: of a code, or of a token.
func (b *both) gives(c call) string {
	b.t.Helper()
	a := b.want(c, api.OK)
	return a.text + a.issued.Token
}

// code is app's, for ann: its text.
func (b *both) code(life, now, n int) string {
	b.t.Helper()
	return b.gives(approve("app", "ann", nil, ofV, life, now, secret(n)))
}

// change lets a client be another one, as no layer below does.
func (b *both) change(name string, change func(c *api.Client)) {
	b.t.Helper()
	c := b.b.clients[name]
	change(&c)
	wantErrno(b.t, "PutClient", b.x.PutClient(c), api.OK)
	wantErrno(b.t, "Commit", b.x.Commit(), api.OK)
	b.b.clients[name] = c
	b.b.commit()
	b.look("another client")
}

// wantRefused is that a call is refused by a table that can not do it, ahead of anything that the book knows of: nothing is changed.
func (b *both) wantRefused(c call, errno api.Errno) {
	b.t.Helper()
	before := b.state()
	b.answered(c, answer{errno: errno})
	if after := b.state(); after != before {
		b.t.Fatalf("%s: %d acts", c.what, after.acts-before.acts)
	}
}

// reopen opens the table anew: the time is that of the last commit.
func (b *both) reopen() {
	b.t.Helper()
	b.x = opened(b.t, b.d)
	b.b.now = b.b.noted
	b.look("opened anew")
}

// family is the state and the end of a family.
func (b *both) family(id, state, ended int) {
	b.t.Helper()
	f, errno := b.x.Family(id)
	if errno != api.OK || f.State != state || f.Ended != ended {
		b.t.Fatalf("the family %d: %#v, %d; want the state %d, ended %d", id, f, errno, state, ended)
	}
}

// codes are just these, as the table has them.
func (b *both) codes(want ...api.Code) {
	b.t.Helper()
	l, errno := b.x.Codes()
	if errno != api.OK || len(l) != len(want) {
		b.t.Fatalf("the codes are %#v, %d; want %#v", l, errno, want)
	}
	for n := range l {
		if !same(l[n], want[n]) {
			b.t.Fatalf("the code is %#v, want %#v", l[n], want[n])
		}
	}
}

// event is the last one that was noted.
func (b *both) event(kind, family, time int, who string) {
	b.t.Helper()
	l, errno := b.x.Events()
	want := api.Event{Number: b.b.base + len(b.b.events), Time: time, Kind: kind, Family: family, Who: who}
	if errno != api.OK || len(l) == 0 || l[len(l)-1] != want {
		b.t.Fatalf("the events are %v, %d; want %v at last", l, errno, want)
	}
}

// wantNowhere is that none of these stands on the disk.
func (b *both) wantNowhere(texts ...string) {
	b.t.Helper()
	all := strings.Join(b.d.Blocks(), "")
	for _, text := range texts {
		if strings.Contains(all, text) {
			b.t.Fatalf("%q stands on the disk", text)
		}
	}
}
