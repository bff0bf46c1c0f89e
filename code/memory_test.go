package code_test

import (
	"fmt"
	"runtime"
	"slices"
	"strings"
	"sync"
	"testing"
	"unsafe"
	"weak"

	"latchkey/api"
	"latchkey/code"
	"latchkey/table"
)

// spacious is a list with spare room, of which all but the list is what it was.
func spacious(names ...string) (list, whole []string) {
	whole = append(slices.Clone(names), "spare", "", "room")
	return whole[:len(names)], whole
}

// overwrite writes over a list.
func overwrite(l []string) {
	for n := range l {
		l[n] = "written.over"
	}
}

// R2: a scope that is handed in is not written into, nor its spare room, whatever is answered; it may be written over behind the call.
func TestScopeHandedIn(t *testing.T) {
	for _, scope := range [][]string{{}, {"read"}, {"read", "write"}, {"admin", "read"}, {"zzz"}, {"b", "a"}} {
		list, whole := spacious(scope...)
		was := slices.Clone(whole)
		b := newBoth(t)
		a := approve("web", "ann", list, ofV, 30, 100, secret(1)).do(b.x)
		if !slices.Equal(whole, was) {
			t.Fatalf("written into: %q", whole)
		}
		overwrite(whole)
		want := approve("web", "ann", scope, ofV, 30, 100, secret(1)).book(b.b)
		if !a.same(want) {
			t.Fatalf("Approve: %#v, want %#v", a, want)
		}
		b.look("Approve, written over")
		b.call(redeem("web", a.text, v, 101, secret(2)))
	}
}

// R2: what came out is written over, and grown: the table tells the same as ever.
func TestAnswersWrittenOver(t *testing.T) {
	b := newBoth(t)
	for n, scope := range [][]string{nil, {"read"}, {"admin", "write"}} {
		text := b.gives(approve("web", "ann", scope, ofV, 30, 100, secret(n)))
		c := redeem("web", text, v, 101, secret(10+n))
		got, want := c.do(b.x), c.book(b.b)
		if !got.same(want) {
			t.Fatalf("%s: %#v, want %#v", c.what, got, want)
		}
		l := got.issued.Scope
		overwrite(l[:cap(l)])
		_ = append(l, "grown", "more")
		b.look(c.what)
		b.want(introspect(want.issued.Token, 101), api.OK)
		b.want(rotate("web", want.issued.Token, nil, 101, secret(20+n)), api.OK)
	}
}

// R2: the lists of all answers, and of what was handed in, share no memory, spare room too.
func TestListsApart(t *testing.T) {
	wide := someClient("wide")
	wide.Scope = eight()
	b := founded(t, 128, 1, 0, wide)
	var lists [][]string
	for n := range 4 {
		scope := eight()
		text := b.gives(approve("wide", "ann", scope, ofV, 30, 100, secret(n)))
		a := redeem("wide", text, v, 101, secret(n)).do(b.x).issued
		redeem("wide", text, v, 101, secret(n)).book(b.b)
		lists = append(lists, scope, a.Scope)
	}
	for n, a := range lists {
		if !slices.Equal(a, eight()) {
			t.Fatalf("the %d-th is %q", n, a)
		}
		for _, b := range lists[n+1:] {
			a, b := a[:cap(a)], b[:cap(b)]
			if &a[0] == &b[0] || &a[len(a)-1] == &b[len(b)-1] {
				t.Fatal("memory is shared")
			}
		}
	}
}

// handedIn hands texts and a list in, and tells which of them are kept, by the table or by an answer.
func handedIn(t *testing.T, x *table.Table, answers *[]answer) []func() bool {
	t.Helper()
	client, subject, one, two, list := strings.Clone("web"), strings.Clone("somebody"), strings.Clone(secret(1)), strings.Clone(secret(2)), []string{strings.Clone("read")}
	shown := strings.Clone(v)
	challenge, errno := code.Challenge(shown)
	wantErrno(t, "Challenge", errno, api.OK)
	given := approve(client, subject, list, challenge, 30, 100, one).do(x)
	wantErrno(t, "Approve", given.errno, api.OK)
	text := strings.Clone(given.text)
	a := redeem(client, text, shown, 101, two).do(x)
	wantErrno(t, "Redeem", a.errno, api.OK)
	again := redeem(client, text, shown, 102, two).do(x)
	wantErrno(t, "Redeem again", again.errno, api.ErrCodeToken)
	*answers = append(*answers, given, a, again)
	var l []func() bool
	for _, s := range []string{client, subject, one, two, list[0], text, shown, challenge} {
		is := weak.Make(unsafe.StringData(s))
		l = append(l, func() bool { return is.Value() != nil })
	}
	is := weak.Make(unsafe.SliceData(list))
	return append(l, func() bool { return is.Value() != nil })
}

// R2: nothing of what is handed in is kept; an answer shares no memory with it.
func TestNothingKept(t *testing.T) {
	b := newBoth(t)
	var answers []answer
	for n, is := range handedIn(t, b.x, &answers) {
		for tries := 0; is(); tries++ {
			if runtime.GC(); tries == 10 {
				t.Fatalf("the %d-th is kept", n)
			}
		}
	}
	runtime.KeepAlive(answers)
	runtime.KeepAlive(b)
}

// R2: two tables, by turns, know nothing of one another, also if the one is dead.
func TestTwoTables(t *testing.T) {
	one, fresh, used := shown(t)
	two := newBoth(t)
	two.want(redeem("app", fresh, v, 50, secret(3)), api.ErrCodeToken)
	two.want(redeem("app", used, v, 50, secret(3)), api.ErrCodeToken)
	other := two.code(30, 50, 1)
	if other != fresh {
		t.Fatal("the test is wrong")
	}
	two.want(redeem("app", other, v, 60, secret(3)), api.OK)
	two.want(redeem("app", other, v, 61, secret(3)), api.ErrCodeToken)
	one.want(redeem("app", fresh, v, 111, secret(4)), api.OK)
	kill(t, one.d)
	one.wantRefused(approve("app", "ann", nil, ofV, 30, 112, secret(3)), api.ErrDead)
	two.code(30, 62, 2)
}

// blocksOfCalls is what the same calls leave on a disk.
func blocksOfCalls(t *testing.T) []string {
	b := newBoth(t)
	for n := range 6 {
		text := approve("app", fmt.Sprint("s", n%2), nil, ofV, 5, 100+3*n, secret(n)).do(b.x).text
		for g := range 1 + n%3 {
			redeem("app", text, v, 101+3*n+g, secret(10*n+g)).do(b.x)
		}
	}
	return b.d.Blocks()
}

// R2: several tables at the same time.
func TestAtTheSameTime(t *testing.T) {
	want := blocksOfCalls(t)
	var group sync.WaitGroup
	for range 8 {
		group.Go(func() {
			if !slices.Equal(blocksOfCalls(t), want) {
				t.Error("other blocks have come of the same calls")
			}
			for n := range 100 {
				if c, errno := code.Challenge(verifier(n)); c != challengeOf(verifier(n)) || errno != api.OK {
					t.Error("another challenge")
				}
			}
		})
	}
	group.Wait()
}
