package trail_test

import (
	"reflect"
	"runtime"
	"slices"
	"strings"
	"sync"
	"testing"
	"unsafe"
	"weak"

	"latchkey/api"
	"latchkey/table"
	"latchkey/trail"
)

// memory is a piece of it: first and last byte.
type memory [2]uintptr

// memoryOf is where the texts and lists within something stand, with their spare room; one byte alone may be the language's own.
func memoryOf(v reflect.Value) []memory {
	var all []memory
	switch v.Kind() {
	case reflect.String:
		if s := v.String(); len(s) > 1 {
			p := uintptr(unsafe.Pointer(unsafe.StringData(s)))
			all = append(all, memory{p, p + uintptr(len(s)) - 1})
		}
	case reflect.Slice:
		if v.Cap() > 0 {
			p := v.Pointer()
			all = append(all, memory{p, p + uintptr(v.Cap())*v.Type().Elem().Size() - 1})
		}
		for n := range v.Len() {
			all = append(all, memoryOf(v.Index(n))...)
		}
	case reflect.Struct:
		for n := range v.NumField() {
			all = append(all, memoryOf(v.Field(n))...)
		}
	}
	return all
}

// wantApart is that no two of these share memory.
func wantApart(t *testing.T, what string, things ...any) {
	t.Helper()
	for n, a := range things {
		for _, b := range things[n+1:] {
			for _, one := range memoryOf(reflect.ValueOf(a)) {
				for _, two := range memoryOf(reflect.ValueOf(b)) {
					if one[0] <= two[1] && two[0] <= one[1] {
						t.Fatalf("%s: memory is shared", what)
					}
				}
			}
		}
	}
	runtime.KeepAlive(things)
}

// R2: what comes out is new memory, and not that of what went in.
func TestNewMemory(t *testing.T) {
	hash, who := digest(1), strings.Clone("somebody")
	e := api.Event{Number: 1, Kind: 1, Who: who}
	a, _ := trail.Link(hash, e)
	b, _ := trail.Link(hash, e)
	wantApart(t, "Link", hash, who, a, b)

	d, x := began(t, 40)
	for range 40 {
		trail.Note(x, api.EventClient, 0, who)
	}
	for range 2 {
		c, l, _ := trail.Read(x)
		other, m, _ := trail.Read(x)
		wantApart(t, "Read", who, c, l, other, m)
		wantErrno(t, "Commit", x.Commit(), api.OK)
		x = opened(t, d)
	}
}

// R2: what came out is written over, and grown; the table tells the same as ever.
func TestAnswersWrittenOver(t *testing.T) {
	for _, count := range []int{0, 1, 5, 32, 40} {
		d, x := began(t, 40)
		p := newPlain()
		for range count {
			wantNote(t, x, 1, 2, "app", p.note(1, 2, "app"), api.OK)
		}
		for range 2 {
			c, l, _ := trail.Read(x)
			l = l[:cap(l)]
			for n := range l {
				l[n] = api.Event{Number: 77, Who: "written over"}
			}
			l = append(l, some(5), some(6))
			c.Base, c.NextHash = 9, ""
			want, events := p.read()
			wantTrail(t, "written over", x, want, events)
			wantNote(t, x, 3, 4, "web", p.note(3, 4, "web"), api.OK)
			want, events = p.read()
			wantTrail(t, "noted behind that", x, want, events)
			wantErrno(t, "Commit", x.Commit(), api.OK)
			x = opened(t, d)
		}
	}
}

// R2: a list that is handed in is not written into, nor its spare room; it may be written over behind the call, and be handed in again.
func TestListStays(t *testing.T) {
	overTrails(func(c api.Chain, l []api.Event) {
		behind := []api.Event{some(1), {}, some(2)}
		whole := slices.Concat(l, behind)
		list := whole[:len(l)]
		was := slices.Clone(whole)
		for range 3 {
			wantErrno(t, "Verify", trail.Verify(c, list), api.OK)
			wantErrno(t, "Goes", trail.Goes(c, c, list), api.OK)
			if !slices.Equal(whole, was) {
				t.Fatalf("written into: %v", whole)
			}
			for n := range whole {
				whole[n] = api.Event{}
			}
			if len(l) > 0 {
				wantErrno(t, "Verify, written over", trail.Verify(c, list), api.ErrTrailField)
				wantErrno(t, "Goes, written over", trail.Goes(c, c, list), api.ErrTrailField)
			}
			copy(whole, was)
		}
	})
}

// handedIn hands texts and a list in, and tells which of them are kept.
func handedIn(x *table.Table) []func() bool {
	who, hash := strings.Clone("client.of.a.name"), digest(3)
	c, l := someTrail(0, 5)
	l[3].Who = who
	c.NextHash = shaAlong(c.BaseHash, l)
	trail.Note(x, 1, 1, who)
	trail.Link(hash, api.Event{Number: 1, Kind: 1, Who: who})
	trail.Verify(c, l)
	trail.Goes(c, c, l)
	name, digest, next, list := weak.Make(unsafe.StringData(who)), weak.Make(unsafe.StringData(hash)), weak.Make(unsafe.StringData(c.NextHash)), weak.Make(unsafe.SliceData(l))
	return []func() bool{
		func() bool { return name.Value() != nil }, func() bool { return digest.Value() != nil },
		func() bool { return next.Value() != nil }, func() bool { return list.Value() != nil },
	}
}

// R2: nothing of what is handed in is kept.
func TestNothingKept(t *testing.T) {
	_, x := began(t, 40)
	for n, is := range handedIn(x) {
		for tries := 0; is(); tries++ {
			if runtime.GC(); tries == 10 {
				t.Fatalf("the %d-th is kept", n)
			}
		}
	}
	if _, l, _ := trail.Read(x); len(l) != 1 || l[0].Who != "client.of.a.name" {
		t.Fatal(l)
	}
}

// R2: two tables on two disks, by turns, know nothing of one another.
func TestTwoTables(t *testing.T) {
	one, two := newBoth(t, 1), newBoth(t, 2)
	for n := range 120 {
		one.note()
		one.see()
		if n%3 == 0 {
			two.note()
		}
		if n%10 == 0 {
			one.commit()
		}
		if n%17 == 0 {
			two.abort()
		}
		if n%31 == 0 {
			two.commit()
			two.reopen()
		}
		one.look("one")
		two.look("two")
	}
	kill(t, one.d)
	wantDead(t, "one", one.x)
	two.note()
	two.commit()
	two.look("two, alone")
}

// blocksOfNotes is what the same notes leave on a disk.
func blocksOfNotes(t *testing.T) []string {
	d, x := began(t, 40)
	for n := range 50 {
		x.See(n)
		trail.Note(x, 1+n%9, n, "app")
		if n%7 == 0 {
			x.Commit()
		}
	}
	x.Commit()
	return d.Blocks()
}

// R2: several tables at the same time, and one list that many ask about.
func TestAtTheSameTime(t *testing.T) {
	want := blocksOfNotes(t)
	c, l := someTrail(5, 32)
	var group sync.WaitGroup
	for range 8 {
		group.Go(func() {
			if !slices.Equal(blocksOfNotes(t), want) {
				t.Error("another trail has come of the same notes")
			}
			if trail.Verify(c, l) != api.OK || trail.Goes(c, c, l) != api.OK {
				t.Error("one list at the same time")
			}
		})
	}
	group.Wait()
}
