package table_test

import (
	"fmt"
	"testing"

	"latchkey/api"
	"latchkey/disk"
	"latchkey/table"
)

// both is a table on its disk, and the plain lists that it must be like.
type both struct {
	t *testing.T
	d *disk.Disk
	x *table.Table
	p *plain
}

// bothOf is a table of these records, of so many blocks.
func bothOf(t *testing.T, blocks int, l lists, now int) *both {
	t.Helper()
	d := built(t, blocks, l, now)
	return &both{t, d, opened(t, d), newPlain(l, now)}
}

func bothAtHome(t *testing.T) *both {
	t.Helper()
	return bothOf(t, 64, home(), homeTime)
}

// call is one call that may change something.
type call struct {
	what string
	do   func(f face) (any, api.Errno)
}

// call calls one on both: the answers are the same, and nothing comes with an error.
func (b *both) call(c call) {
	b.t.Helper()
	got, errno := c.do(b.x)
	want, wantErrno := c.do(b.p)
	if !same(got, want) || errno != wantErrno {
		b.t.Fatalf("%s: %v, %d; want %v, %d", c.what, got, errno, want, wantErrno)
	}
	if errno != api.OK && got != nil && !isNothing(got) {
		b.t.Fatalf("%s: %v beside %d", c.what, got, errno)
	}
}

// calls calls several, and looks at everything behind each.
func (b *both) calls(l ...call) {
	b.t.Helper()
	for _, c := range l {
		b.call(c)
		wantHas(b.t, "behind "+c.what, b.x, b.p)
	}
}

// reopen opens the table anew; the records must belong together. No page has leaked: the pager had as many free as one that goes over all pages finds.
func (b *both) reopen() {
	b.t.Helper()
	free, held := b.x.Pager().Free(), b.x.Pager().Held()
	b.x = wantStands(b.t, "opened anew", b.d, b.p.stands, b.noted())
	if b.x.Pager().Free() != free+held {
		b.t.Fatalf("free were %d, and are %d", free, b.x.Pager().Free())
	}
	b.p = newPlain(b.p.stands, b.noted())
	wantHas(b.t, "opened anew", b.x, b.p)
}

// noted is the time of the last commit.
func (b *both) noted() int {
	b.t.Helper()
	note := b.x.Pager().Note()
	n := 0
	for _, c := range []byte(note[8:14]) {
		n = n<<8 + int(c)
	}
	return n
}

// wantCall is that a call answers so.
func wantCall(t *testing.T, f face, c call, value any, errno api.Errno) {
	t.Helper()
	if got, e := c.do(f); e != errno || errno == api.OK && !same(got, value) || errno != api.OK && got != nil && !isNothing(got) {
		t.Fatalf("%s: %v, %d; want %v, %d", c.what, got, e, value, errno)
	}
}

// changing is a call that answers nothing but an errno.
func changing(what string, arg any, do func(f face) api.Errno) call {
	return call{fmt.Sprintf("%s(%v)", what, arg), func(f face) (any, api.Errno) { return nil, do(f) }}
}

func putClient(c api.Client) call {
	return changing("PutClient", c, func(f face) api.Errno { return f.PutClient(c) })
}

func putFamily(x api.Family) call {
	return changing("PutFamily", x, func(f face) api.Errno { return f.PutFamily(x) })
}

func putToken(k api.Token) call {
	return changing("PutToken", k, func(f face) api.Errno { return f.PutToken(k) })
}

func putCode(c api.Code) call {
	return changing("PutCode", c, func(f face) api.Errno { return f.PutCode(c) })
}

func putKey(k api.Key) call {
	return changing("PutKey", k, func(f face) api.Errno { return f.PutKey(k) })
}

func putEvent(e api.Event) call {
	return changing("PutEvent", e, func(f face) api.Errno { return f.PutEvent(e) })
}

func putChain(c api.Chain) call {
	return changing("PutChain", c, func(f face) api.Errno { return f.PutChain(c) })
}

func removeFamily(id int) call {
	return changing("Remove", id, func(f face) api.Errno { return f.Remove(id) })
}

func removeCode(id int) call {
	return changing("RemoveCode", id, func(f face) api.Errno { return f.RemoveCode(id) })
}

func removeKey(number int) call {
	return changing("RemoveKey", number, func(f face) api.Errno { return f.RemoveKey(number) })
}

func removeEvent(number int) call {
	return changing("RemoveEvent", number, func(f face) api.Errno { return f.RemoveEvent(number) })
}

func commit() call {
	return changing("Commit", "", func(f face) api.Errno { return f.Commit() })
}

func abort() call {
	return changing("Abort", "", func(f face) api.Errno { f.Abort(); return api.OK })
}

func nextID() call {
	return call{"ID", func(f face) (any, api.Errno) { return f.ID() }}
}

func see(reading int) call {
	return call{fmt.Sprintf("See(%d)", reading), func(f face) (any, api.Errno) { return f.See(reading), api.OK }}
}

// Calls that ask, and change nothing.

func getClient(name string) call {
	return call{fmt.Sprintf("Client(%q)", name), func(f face) (any, api.Errno) { return f.Client(name) }}
}

func getFamily(id int) call {
	return call{fmt.Sprintf("Family(%d)", id), func(f face) (any, api.Errno) { return f.Family(id) }}
}

func getToken(id int) call {
	return call{fmt.Sprintf("Token(%d)", id), func(f face) (any, api.Errno) { return f.Token(id) }}
}

func getCode(id int) call {
	return call{fmt.Sprintf("Code(%d)", id), func(f face) (any, api.Errno) { return f.Code(id) }}
}

func tokensOf(family int) call {
	return call{fmt.Sprintf("Tokens(%d)", family), func(f face) (any, api.Errno) { return f.Tokens(family) }}
}

func ofSubject(name string) call {
	return call{fmt.Sprintf("Subject(%q)", name), func(f face) (any, api.Errno) { return f.Subject(name) }}
}

func ending(before, most int) call {
	return call{fmt.Sprintf("Ending(%d, %d)", before, most), func(f face) (any, api.Errno) { return f.Ending(before, most) }}
}

func allClients() call {
	return call{"Clients", func(f face) (any, api.Errno) { return f.Clients() }}
}

func allCodes() call {
	return call{"Codes", func(f face) (any, api.Errno) { return f.Codes() }}
}

func allKeys() call {
	return call{"Keys", func(f face) (any, api.Errno) { return f.Keys() }}
}

func allEvents() call {
	return call{"Events", func(f face) (any, api.Errno) { return f.Events() }}
}

func theChainCall() call {
	return call{"Chain", func(f face) (any, api.Errno) { return f.Chain() }}
}
