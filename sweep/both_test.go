package sweep_test

import (
	"fmt"
	"slices"
	"testing"

	"latchkey/api"
	"latchkey/client"
	"latchkey/code"
	"latchkey/disk"
	"latchkey/grant"
	"latchkey/pager"
	"latchkey/record"
	"latchkey/sweep"
	"latchkey/table"
)

// answer is what a call answers; what it does not answer is zero.
type answer struct {
	text   string
	issued api.Issued
	info   api.Info
	count  int
	due    [2]int
	swept  api.Swept
	errno  api.Errno
}

func (a answer) same(b answer) bool {
	return a.text == b.text && same(a.issued, b.issued) && same(a.info, b.info) && a.count == b.count && a.due == b.due && a.swept == b.swept && a.errno == b.errno
}

// call is one of those that commit, or change nothing, as it is asked of a table and of a book.
type call struct {
	what string
	do   func(x *table.Table) answer
	book func(b *book) answer
}

func due(retain, now int) call {
	return call{
		fmt.Sprintf("Due(%d, %d)", retain, now),
		func(x *table.Table) answer {
			n, m, errno := sweep.Due(x, retain, now)
			return answer{due: [2]int{n, m}, errno: errno}
		},
		func(b *book) answer {
			n, m, errno := b.Due(retain, now)
			return answer{due: [2]int{n, m}, errno: errno}
		},
	}
}

func run(retain, most, now int) call {
	return call{
		fmt.Sprintf("Run(%d, %d, %d)", retain, most, now),
		func(x *table.Table) answer {
			s, errno := sweep.Run(x, retain, most, now)
			return answer{swept: s, errno: errno}
		},
		func(b *book) answer {
			s, errno := b.Run(retain, most, now)
			return answer{swept: s, errno: errno}
		},
	}
}

func approve(client, subject string, scope []string, challenge string, life, now int, secret string) call {
	return call{
		fmt.Sprintf("Approve(%q, %q, %q, %.60q, %d, %d, %q)", client, subject, scope, challenge, life, now, secret),
		func(x *table.Table) answer {
			text, errno := code.Approve(x, client, subject, scope, challenge, life, now, secret)
			return answer{text: text, errno: errno}
		},
		func(b *book) answer {
			text, errno := b.Approve(client, subject, scope, challenge, life, now, secret)
			return answer{text: text, errno: errno}
		},
	}
}

func redeem(client, text, verifier string, now int, secret string) call {
	return call{
		fmt.Sprintf("Redeem(%q, %.60q, %.60q, %d, %q)", client, text, verifier, now, secret),
		func(x *table.Table) answer {
			a, errno := code.Redeem(x, client, text, verifier, now, secret)
			return answer{issued: a, errno: errno}
		},
		func(b *book) answer {
			a, errno := b.Redeem(client, text, verifier, now, secret)
			return answer{issued: a, errno: errno}
		},
	}
}

func issue(client, subject string, scope []string, now int, secret string) call {
	return call{
		fmt.Sprintf("Issue(%q, %q, %q, %d, %q)", client, subject, scope, now, secret),
		func(x *table.Table) answer {
			a, errno := grant.Issue(x, client, subject, scope, now, secret)
			return answer{issued: a, errno: errno}
		},
		func(b *book) answer {
			a, errno := b.Issue(client, subject, scope, now, secret)
			return answer{issued: a, errno: errno}
		},
	}
}

func rotate(client, text string, scope []string, now int, secret string) call {
	return call{
		fmt.Sprintf("Rotate(%q, %q, %q, %d, %q)", client, text, scope, now, secret),
		func(x *table.Table) answer {
			a, errno := grant.Rotate(x, client, text, scope, now, secret)
			return answer{issued: a, errno: errno}
		},
		func(b *book) answer {
			a, errno := b.Rotate(client, text, scope, now, secret)
			return answer{issued: a, errno: errno}
		},
	}
}

func revoke(client, text string, now int) call {
	return call{
		fmt.Sprintf("Revoke(%q, %q, %d)", client, text, now),
		func(x *table.Table) answer { return answer{errno: grant.Revoke(x, client, text, now)} },
		func(b *book) answer { return answer{errno: b.Revoke(client, text, now)} },
	}
}

func revokeAll(subject string, now int) call {
	return call{
		fmt.Sprintf("RevokeAll(%q, %d)", subject, now),
		func(x *table.Table) answer {
			n, errno := grant.RevokeAll(x, subject, now)
			return answer{count: n, errno: errno}
		},
		func(b *book) answer {
			n, errno := b.RevokeAll(subject, now)
			return answer{count: n, errno: errno}
		},
	}
}

func introspect(text string, now int) call {
	return call{
		fmt.Sprintf("Introspect(%q, %d)", text, now),
		func(x *table.Table) answer {
			a, errno := grant.Introspect(x, text, now)
			return answer{info: a, errno: errno}
		},
		func(b *book) answer {
			a, errno := b.Introspect(text, now)
			return answer{info: a, errno: errno}
		},
	}
}

// turn is a client switched off, or on.
func turn(name string, off bool, now int) call {
	return call{
		fmt.Sprintf("Switch(%q, %v, %d)", name, off, now),
		func(x *table.Table) answer { return answer{errno: client.Switch(x, name, off, now)} },
		func(b *book) answer { return answer{errno: b.Switch(name, off, now)} },
	}
}

// both is a table on its disk, and the book that it must be like.
type both struct {
	t *testing.T
	d *disk.Disk
	x *table.Table
	b *book
}

// founded is a table with these clients, whose next ID is given, and whose trail goes on behind a base.
func founded(t *testing.T, blocks, next, base int, clients ...api.Client) *both {
	t.Helper()
	d, errno := disk.New(blocks)
	wantErrno(t, "New", errno, api.OK)
	note, errno := record.PrintNote(next, 0)
	wantErrno(t, "PrintNote", errno, api.OK)
	wantErrno(t, "Format", pager.Format(d, note), api.OK)
	x := opened(t, d)
	if base > 0 {
		wantErrno(t, "PutChain", x.PutChain(api.Chain{Base: base, Next: base + 1, BaseHash: digestOf("base"), NextHash: digestOf("base")}), api.OK)
	}
	for _, c := range clients {
		wantErrno(t, "PutClient", x.PutClient(c), api.OK)
	}
	wantErrno(t, "Commit", x.Commit(), api.OK)
	b := newBook(base, clients...)
	b.next = next
	return &both{t, d, x, b}
}

// newBoth is one with app, off and web.
func newBoth(t *testing.T) *both {
	t.Helper()
	return founded(t, 128, 1, 0, three()...)
}

// twin is the same on another disk.
func (b *both) twin(t *testing.T) *both {
	t.Helper()
	d := loaded(t, b.d.Blocks())
	x := opened(t, d)
	c := b.b.copied()
	c.now = c.noted
	return &both{t, d, x, c}
}

// state is what each act and each commit changes.
type state struct {
	acts, generation int
	note             string
}

func (b *both) state() state {
	return state{b.d.Acts(), b.x.Pager().Generation(), b.x.Pager().Note()}
}

// call asks both for the same, and holds all that there is then against the book: what changed something was one commit, all else did no act.
func (b *both) call(c call) answer {
	b.t.Helper()
	a := b.quick(c)
	b.look(c.what)
	return a
}

// quick asks both for the same, and does not look at all that there is.
func (b *both) quick(c call) answer {
	b.t.Helper()
	before, commits := b.state(), b.b.commits
	want := c.book(b.b)
	b.answered(c, want)
	after := b.state()
	switch b.b.commits - commits {
	case 0:
		if after != before {
			b.t.Fatalf("%s: %d acts", c.what, after.acts-before.acts)
		}
	case 1:
		if after.generation != before.generation+1 || after.acts < before.acts+4 {
			b.t.Fatalf("%s: %d commits, %d acts", c.what, after.generation-before.generation, after.acts-before.acts)
		}
	default:
		b.t.Fatal("the test is wrong")
	}
	return want
}

// answered is that the table answers so.
func (b *both) answered(c call, want answer) {
	b.t.Helper()
	if got := c.do(b.x); !got.same(want) {
		b.t.Fatalf("%s: %#v, want %#v", c.what, got, want)
	}
}

// look holds the table, and what stands on its disk, against the book.
func (b *both) look(what string) {
	b.t.Helper()
	wantHas(b.t, what, b.x, b.b)
	if next := nextOf(b.x); next != b.b.next {
		b.t.Fatalf("%s: the next ID is %d, want %d", what, next, b.b.next)
	}
	wantStands(b.t, what, b.d, b.b)
}

// want is a call of which the test itself says which error is answered, too.
func (b *both) want(c call, errno api.Errno) answer {
	b.t.Helper()
	a := b.call(c)
	wantErrno(b.t, c.what, a.errno, errno)
	return a
}

// gives is a call that gives a text: of a code, or of a token.
func (b *both) gives(c call) string {
	b.t.Helper()
	a := b.want(c, api.OK)
	return a.text + a.issued.Token
}

// issued is a family of app's, for a subject: its token.
func (b *both) issued(subject string, now, n int) string {
	b.t.Helper()
	return b.gives(issue("app", subject, nil, now, secret(n)))
}

// approved is a code of app's, for a subject: its text.
func (b *both) approved(subject string, life, now, n int) string {
	b.t.Helper()
	return b.gives(approve("app", subject, nil, ofV, life, now, secret(n)))
}

// redeemed is a family of app's that came of a code which was good so long: both texts.
func (b *both) redeemed(subject string, life, now, n int) (code, token string) {
	b.t.Helper()
	code = b.approved(subject, life, now, n)
	return code, b.gives(redeem("app", code, v, now, secret(1000+n)))
}

// due is that so many families and codes are due.
func (b *both) due(retain, now, families, codes int) {
	b.t.Helper()
	if a := b.want(due(retain, now), api.OK); a.due != [2]int{families, codes} {
		b.t.Fatalf("Due(%d, %d): %v, want %d families, %d codes", retain, now, a.due, families, codes)
	}
}

// run is that so much is swept.
func (b *both) run(retain, most, now int, want api.Swept) {
	b.t.Helper()
	if a := b.want(run(retain, most, now), api.OK); a.swept != want {
		b.t.Fatalf("Run(%d, %d, %d): %+v, want %+v", retain, most, now, a.swept, want)
	}
}

// wantRefused is that a call is refused by a table that can not do it, ahead of anything that the book knows of: nothing is changed.
func (b *both) wantRefused(c call, errno api.Errno) {
	b.t.Helper()
	before := b.state()
	b.answered(c, answer{errno: errno})
	if after := b.state(); after != before {
		b.t.Fatalf("%s: %d acts", c.what, after.acts-before.acts)
	}
}

// reopen opens the table anew: the time is that of the last commit.
func (b *both) reopen() {
	b.t.Helper()
	b.x = opened(b.t, b.d)
	b.b.now = b.b.noted
	b.look("opened anew")
}

// left are the families that the table has, by rising IDs.
func (b *both) left(want ...int) {
	b.t.Helper()
	ids, errno := b.x.Ending(most, most)
	slices.Sort(ids)
	if errno != api.OK || !slices.Equal(ids, want) {
		b.t.Fatalf("the families are %v, %d; want %v", ids, errno, want)
	}
}

// codes are those that the table has.
func (b *both) codes(want ...int) {
	b.t.Helper()
	l, errno := b.x.Codes()
	var ids []int
	for _, k := range l {
		ids = append(ids, k.ID)
	}
	if errno != api.OK || !slices.Equal(ids, want) {
		b.t.Fatalf("the codes are %v, %d; want %v", ids, errno, want)
	}
}

// sweeps is that the last events are of these families, at a time, by whom.
func (b *both) sweeps(time int, who string, families ...int) {
	b.t.Helper()
	l, errno := b.x.Events()
	if errno != api.OK || len(l) < len(families) {
		b.t.Fatalf("the events are %v, %d", l, errno)
	}
	first := b.b.base + len(b.b.events) - len(families) + 1
	for n, e := range l[len(l)-len(families):] {
		if e != (api.Event{Number: first + n, Time: time, Kind: api.EventSweep, Family: families[n], Who: who}) {
			b.t.Fatalf("the events are %v, want sweeps of %v by %s at %d", l, families, who, time)
		}
	}
}
