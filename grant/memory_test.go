package grant_test

import (
	"fmt"
	"runtime"
	"slices"
	"strings"
	"sync"
	"testing"
	"unsafe"
	"weak"

	"latchkey/api"
	"latchkey/grant"
	"latchkey/table"
)

// spacious is a list with spare room, of which all but the list is what it was.
func spacious(names ...string) (list, whole []string) {
	whole = append(slices.Clone(names), "spare", "", "room")
	return whole[:len(names)], whole
}

// overwrite writes over a list.
func overwrite(l []string) {
	for n := range l {
		l[n] = "written.over"
	}
}

// R2: a scope that is handed in is not written into, nor its spare room, whatever is answered; it may be written over behind the call.
func TestScopeHandedIn(t *testing.T) {
	for _, scope := range [][]string{{}, {"read"}, {"read", "write"}, {"admin", "read"}, {"b", "a"}} {
		list, whole := spacious(scope...)
		was := slices.Clone(whole)
		intact := func(what string) {
			t.Helper()
			if !slices.Equal(whole, was) {
				t.Fatalf("%s: written into: %q", what, whole)
			}
		}
		b := newBoth(t)
		a := issue("web", "ann", list, 100, secret(1)).do(b.x)
		intact("Issue")
		overwrite(whole)
		want := issue("web", "ann", scope, 100, secret(1)).book(b.b)
		if !a.same(want) {
			t.Fatalf("Issue: %#v", a)
		}
		b.look("Issue, written over")
		for n, text := range []string{a.issued.Token, a.issued.Token, "x"} { // fresh, replayed, refused
			copy(whole, was)
			got := rotate("web", text, list, 101+n, secret(2)).do(b.x)
			intact("Rotate")
			overwrite(whole)
			if want := rotate("web", text, scope, 101+n, secret(2)).book(b.b); !got.same(want) {
				t.Fatalf("Rotate: %#v, want %#v", got, want)
			}
			b.look("Rotate, written over")
		}
		copy(whole, was)
		after := b.b.copied()
		got, errno := grant.Begin(b.x, "web", "bob", list, 5, secret(3))
		intact("Begin")
		overwrite(whole)
		if want, e := after.Begin("web", "bob", scope, 5, secret(3)); errno != e || !same(got, want) {
			t.Fatalf("Begin: %#v, %d", got, errno)
		}
		wantHas(t, "Begin, written over", b.x, after)
	}
}

// R2: what came out is written over, and grown: the table tells the same as ever.
func TestAnswersWrittenOver(t *testing.T) {
	b := newBoth(t)
	spoil := func(l []string) {
		overwrite(l[:cap(l)])
		_ = append(l, "grown", "more")
	}
	for n, scope := range [][]string{nil, {"read"}, {"admin", "write"}} {
		a := b.want(issue("web", "ann", scope, 100, secret(n)), api.OK).issued
		got := issue("web", "bob", scope, 100, secret(n)).do(b.x).issued
		spoil(got.Scope)
		issue("web", "bob", scope, 100, secret(n)).book(b.b)
		b.look("Issue")
		for _, narrow := range [][]string{nil, {"write"}} {
			for range 2 {
				c := rotate("web", a.Token, narrow, 101, secret(3))
				got, want := c.do(b.x), c.book(b.b)
				if !got.same(want) {
					t.Fatalf("%s: %#v", c.what, got)
				}
				spoil(got.issued.Scope)
				b.look(c.what)
			}
		}
		for range 2 {
			info := introspect(got.Token, 101).do(b.x).info
			spoil(info.Scope)
			b.want(introspect(got.Token, 101), api.OK)
		}
		after := b.b.copied()
		begun, errno := grant.Begin(b.x, "web", "eve", scope, 0, secret(3))
		wantErrno(t, "Begin", errno, api.OK)
		spoil(begun.Scope)
		after.Begin("web", "eve", scope, 0, secret(3))
		wantHas(t, "Begin", b.x, after)
		b.x.Abort()
	}
}

// R2: the lists of all answers, and of what was handed in, share no memory, spare room too.
func TestListsApart(t *testing.T) {
	wide := someClient("wide")
	wide.Scope = eight()
	b := founded(t, 128, 1, 0, wide)
	var lists [][]string
	for _, scope := range [][]string{nil, eight()} {
		first := issue("wide", "ann", scope, 100, secret(1)).do(b.x).issued
		second := rotate("wide", first.Token, scope, 101, secret(2)).do(b.x).issued
		again := rotate("wide", first.Token, scope, 101, secret(2)).do(b.x).issued
		info := introspect(second.Token, 101).do(b.x).info
		more := introspect(second.Token, 101).do(b.x).info
		begun, errno := grant.Begin(b.x, "wide", "ann", scope, 0, secret(3))
		wantErrno(t, "Begin", errno, api.OK)
		lists = append(lists, first.Scope, second.Scope, again.Scope, info.Scope, more.Scope, begun.Scope)
		if scope != nil {
			lists = append(lists, scope)
		}
	}
	for n, a := range lists {
		if !slices.Equal(a, eight()) {
			t.Fatalf("the %d-th is %q", n, a)
		}
		for _, b := range lists[n+1:] {
			a, b := a[:cap(a)], b[:cap(b)]
			if &a[0] == &b[0] || &a[len(a)-1] == &b[len(b)-1] {
				t.Fatal("memory is shared")
			}
		}
	}
}

// handedIn hands texts and a list in, and tells which of them are kept, by the table or by an answer.
func handedIn(t *testing.T, x *table.Table, answers *[]answer) []func() bool {
	client, subject, one, two, list := strings.Clone("web"), strings.Clone("somebody"), strings.Clone(secret(1)), strings.Clone(secret(2)), []string{strings.Clone("read")}
	a := issue(client, subject, list, 100, one).do(x)
	wantErrno(t, "Issue", a.errno, api.OK)
	text := strings.Clone(a.issued.Token)
	next := rotate(client, text, list, 101, two).do(x)
	wantErrno(t, "Rotate", next.errno, api.OK)
	again := rotate(client, text, list, 101, one).do(x)
	wantErrno(t, "Rotate again", again.errno, api.OK)
	info := introspect(text, 101).do(x)
	begun, errno := grant.Begin(x, client, subject, list, 7, one)
	wantErrno(t, "Begin", errno, api.OK)
	*answers = append(*answers, a, next, again, info, answer{issued: begun})
	wantErrno(t, "Revoke", grant.Revoke(x, client, text, 102), api.OK)
	wantErrno(t, "RevokeAll", revokeAll(subject, 102).do(x).errno, api.OK)
	var l []func() bool
	for _, s := range []string{client, subject, one, two, list[0], text} {
		is := weak.Make(unsafe.StringData(s))
		l = append(l, func() bool { return is.Value() != nil })
	}
	is := weak.Make(unsafe.SliceData(list))
	return append(l, func() bool { return is.Value() != nil })
}

// R2: nothing of what is handed in is kept; an answer shares no memory with it.
func TestNothingKept(t *testing.T) {
	b := newBoth(t)
	var answers []answer
	for n, is := range handedIn(t, b.x, &answers) {
		for tries := 0; is(); tries++ {
			if runtime.GC(); tries == 10 {
				t.Fatalf("the %d-th is kept", n)
			}
		}
	}
	runtime.KeepAlive(answers)
	runtime.KeepAlive(b)
}

// DOC.md's words: what is kept of a text is its digest. No text stands on the disk, and no current token's secret.
func TestNoTextStands(t *testing.T) {
	b, first, second := turned(t)
	for _, block := range b.d.Blocks() {
		for _, text := range []string{first, second, secret(1)} { // secret(2) is the successor's: that is given again within the grace
			if strings.Contains(block, text) {
				t.Fatal("it stands on the disk")
			}
		}
	}
}

// R2: two tables, by turns, know nothing of one another, also if the one is dead.
func TestTwoTables(t *testing.T) {
	one, first, second := turned(t)
	two := newBoth(t)
	two.want(rotate("app", first, nil, 50, secret(3)), api.ErrGrantToken)
	two.want(introspect(second, 50), api.OK)
	two.want(revokeAll("ann", 50), api.OK)
	other := two.gives(issue("app", "ann", nil, 50, secret(1)))
	if other != first {
		t.Fatal("the test is wrong")
	}
	two.want(revoke("app", other, 60), api.OK)
	if !one.want(introspect(second, 111), api.OK).info.Active {
		t.Fatal("it has ended")
	}
	kill(t, one.d)
	one.wantRefused(rotate("app", second, nil, 112, secret(3)), api.ErrDead)
	two.want(issue("app", "ann", nil, 61, secret(2)), api.OK)
}

// blocksOfCalls is what the same calls leave on a disk.
func blocksOfCalls(t *testing.T) []string {
	b := newBoth(t)
	for n := range 4 {
		text := issue("app", fmt.Sprint("s", n%2), nil, 100+n, secret(n)).do(b.x).issued.Token
		for g := range 3 {
			text = rotate("app", text, nil, 101+n+g, secret(10*n+g)).do(b.x).issued.Token
		}
		revoke("app", text, 105+n).do(b.x)
		introspect(text, 105+n).do(b.x)
	}
	revokeAll("s1", 120).do(b.x)
	return b.d.Blocks()
}

// R2: several tables at the same time.
func TestAtTheSameTime(t *testing.T) {
	want := blocksOfCalls(t)
	var group sync.WaitGroup
	for range 8 {
		group.Go(func() {
			if !slices.Equal(blocksOfCalls(t), want) {
				t.Error("other blocks have come of the same calls")
			}
		})
	}
	group.Wait()
}
