package client_test

import (
	"runtime"
	"slices"
	"strings"
	"sync"
	"testing"
	"unsafe"
	"weak"

	"latchkey/api"
	"latchkey/client"
	"latchkey/table"
)

// spacious is a list with spare room, of which all but the list is what it was.
func spacious(names ...string) (list, whole []string) {
	whole = append(slices.Clone(names), "spare", "", "room")
	return whole[:len(names)], whole
}

// R2: a scope that is handed in is not written into, nor its spare room, whatever is answered; it may be written over behind the call.
func TestScopeHandedIn(t *testing.T) {
	b := newBoth(t, 64)
	list, whole := spacious("read", "write")
	was := slices.Clone(whole)
	c := app()
	c.Scope = list
	for n, want := range []api.Errno{api.OK, api.ErrClientThere, api.ErrClientField} {
		secret := []string{p, p, "x"}[n]
		b.want(register(c, secret, 100), want)
		if !slices.Equal(whole, was) {
			t.Fatalf("written into: %q", whole)
		}
		for n := range whole {
			whole[n] = "written.over"
		}
		b.look("written over")
		copy(whole, was)
	}
	for n := range whole {
		whole[n] = "written.over"
	}
	b.want(ask("app", p, 100), api.OK)
	b.want(renew("app", q, 5, 100), api.OK)
	b.reopen()
	b.want(ask("app", q, 100), api.OK)
}

// R2: what came out is written over, and grown: the table tells the same as ever.
func TestAnswersWrittenOver(t *testing.T) {
	b := newBoth(t, 64)
	for _, c := range []api.Client{someClient("app"), greatest("great")} {
		b.want(register(c, p, 100), api.OK)
		for range 3 {
			got, errno := client.Check(b.x, c.Name, p, 100)
			wantErrno(t, "Check", errno, api.OK)
			all := got.Scope[:cap(got.Scope)]
			for n := range all {
				all[n] = "written.over"
			}
			got.Scope = append(got.Scope, "grown", "more")
			got.Name, got.Hash, got.Idle, got.Off = "other", "", 0, true
			b.look("written over")
			b.want(ask(c.Name, p, 100), api.OK)
		}
	}
}

// R2: the lists of two answers, and of what was handed in, share no memory, spare room too.
func TestListsApart(t *testing.T) {
	_, x := began(t, 64)
	c := greatest("app")
	wantErrno(t, "Register", client.Register(x, c, p, 100), api.OK)
	lists := [][]string{c.Scope}
	for range 3 {
		got, errno := client.Check(x, c.Name, p, 100)
		wantErrno(t, "Check", errno, api.OK)
		lists = append(lists, got.Scope)
	}
	for n, a := range lists {
		for _, b := range lists[n+1:] {
			a, b := a[:cap(a)], b[:cap(b)]
			if &a[0] == &b[0] || &a[len(a)-1] == &b[len(b)-1] {
				t.Fatal("memory is shared")
			}
		}
	}
}

// handedIn hands texts and a list in, and tells which of them are kept.
func handedIn(t *testing.T, x *table.Table) []func() bool {
	name, secret, other, list := strings.Clone("somebody"), strings.Clone(p), strings.Clone(q), []string{strings.Clone("somewhat")}
	c := someClient(name)
	c.Scope = list
	wantErrno(t, "Register", client.Register(x, c, secret, 100), api.OK)
	wantErrno(t, "Renew", client.Renew(x, name, other, 5, 100), api.OK)
	wantErrno(t, "Switch", client.Switch(x, name, true, 100), api.OK)
	_, errno := client.Check(x, name, secret, 100)
	wantErrno(t, "Check", errno, api.ErrClientOff)
	var l []func() bool
	for _, s := range []string{name, secret, other, list[0]} {
		is := weak.Make(unsafe.StringData(s))
		l = append(l, func() bool { return is.Value() != nil })
	}
	is := weak.Make(unsafe.SliceData(list))
	return append(l, func() bool { return is.Value() != nil })
}

// R2: nothing of what is handed in is kept: no secret stays in memory.
func TestNothingKept(t *testing.T) {
	d, x := began(t, 64)
	for n, is := range handedIn(t, x) {
		for tries := 0; is(); tries++ {
			if runtime.GC(); tries == 10 {
				t.Fatalf("the %d-th is kept", n)
			}
		}
	}
	for _, block := range d.Blocks() {
		if strings.Contains(block, p) || strings.Contains(block, q) {
			t.Fatal("a password stands on the disk")
		}
	}
	runtime.KeepAlive(x)
}

// R2: two tables, by turns, know nothing of one another, also if the one is dead.
func TestTwoTables(t *testing.T) {
	one, two := withApp(t), newBoth(t, 32)
	two.want(ask("app", p, 50), api.ErrClientNone)
	two.want(register(app(), q, 50), api.OK)
	one.want(renew("app", r, 5, 200), api.OK)
	two.want(ask("app", p, 50), api.ErrClientSecret)
	two.want(turn("app", true, 51), api.OK)
	one.want(ask("app", r, 200), api.OK)
	kill(t, one.d)
	one.wantDead(ask("app", r, 200))
	two.want(turn("app", false, 52), api.OK)
	two.want(ask("app", q, 52), api.OK)
}

// blocksOfCalls is what the same calls leave on a disk.
func blocksOfCalls(t *testing.T) []string {
	d, x := began(t, 64)
	for n, name := range []string{"a", "b", "c", "d"} {
		client.Register(x, someClient(name), p, n)
		client.Renew(x, name, q, 10, n)
		client.Switch(x, name, n%2 == 0, n)
		client.Check(x, name, q, 10+n)
	}
	return d.Blocks()
}

// R2: several tables at the same time.
func TestAtTheSameTime(t *testing.T) {
	want := blocksOfCalls(t)
	var group sync.WaitGroup
	for range 8 {
		group.Go(func() {
			if !slices.Equal(blocksOfCalls(t), want) {
				t.Error("other blocks have come of the same calls")
			}
		})
	}
	group.Wait()
}
