package access_test

import (
	"fmt"
	"slices"
	"sync"
	"testing"

	"latchkey/access"
	"latchkey/api"
	"latchkey/disk"
)

// roomy is a list with spare room behind it, and all of that as it is.
func roomy[T any](spare T, l ...T) (list, all []T) {
	all = append(append([]T{spare}, l...), spare, spare, spare)
	return all[1 : 1+len(l)], all
}

// R2: the lists that are handed in, with their spare room, are not written into.
func TestListsStay(t *testing.T) {
	l, all := roomy("spare", "a", "read", "write")
	was := slices.Clone(all)
	c := claims()
	c.Scope = l
	s := wantSign(t, three(), "home", c)
	c.End = 0
	wantNoSign(t, three(), "home", c, api.ErrAccessClaim)
	if !slices.Equal(all, was) {
		t.Fatalf("Sign has written %q", all)
	}
	keys, every := roomy(api.Key{Number: 99, Until: most}, api.Key{Number: 9, Until: 5}, three(), api.Key{Number: 1, Until: lastTime}, three())
	before := slices.Clone(every)
	for _, now := range []int{0, 20, 40, 100, most} {
		access.Verify(keys, "home", s, now)
		access.Verify(keys, "home", "x", now)
		access.Current(keys, now)
	}
	if !slices.Equal(every, before) {
		t.Fatalf("a key was written: %v", every)
	}
}

// R2: lists that are handed in are not kept: what becomes of them later changes nothing of an answer.
func TestListsAreNotKept(t *testing.T) {
	c := claims()
	c.Scope = names("read", "write")
	s := wantSign(t, three(), "home", c)
	c.Scope[0] = "other"
	keys := []api.Key{three()}
	got, errno := access.Verify(keys, "home", s, 20)
	k, is := access.Current(keys, 20)
	keys[0] = api.Key{}
	if errno != api.OK || !slices.Equal(got.Scope, names("read", "write")) || k != three() || !is {
		t.Fatalf("%#v, %d, %v", got, errno, k)
	}
	wantErrno(t, "Verify", wantVerify(t, keys, "home", s, 20), api.ErrAccessKey)
}

// R2: lists that come out are new memory, spare room too.
func TestListsAreNew(t *testing.T) {
	b := homely(t)
	c := claims()
	c.Scope = names("a", "read", "write")
	s := tokenOf(3, three().Secret, "home", c)
	give := []func() []string{
		func() []string {
			c, _, _ := access.Read("home", s)
			return c.Scope
		},
		func() []string {
			c, _ := access.Verify([]api.Key{three()}, "home", s, 20)
			return c.Scope
		},
		func() []string {
			i, _ := access.Worth(b.x, "home", s, 20)
			return i.Scope
		},
	}
	var all [][]string
	for range 3 {
		for _, g := range give {
			all = append(all, g())
		}
	}
	for n, l := range all {
		if !slices.Equal(l, c.Scope) {
			t.Fatalf("%d: %q", n, l)
		}
		l = l[:cap(l)]
		for at := range l {
			l[at] = "mine"
		}
	}
	if !b.worth("home", s, 20) {
		t.Fatal("it is worth nothing")
	}
	b.look("behind all")
}

// R2: two tables, by turns, know nothing of one another, also if the one is dead.
func TestTwoTables(t *testing.T) {
	one, two := homely(t), founded(t, 64, 0)
	one.makes(4, secret(1), 5, 20)
	two.makes(1, secret(2), 5, 10)
	if two.worth("home", example, 20) || !one.worth("home", example, 20) {
		t.Fatal("the one knows of the other")
	}
	kill(t, one.d)
	one.unable(secret(3), 5, 30, api.ErrDead)
	two.makes(2, secret(3), 5, 30)
	one.dead(example, 31)
	two.makes(3, secret(3), 5, 31)
	two.reopen()
}

// keptDisk is what NewKeys leave on a disk.
func keptDisk(t *testing.T, keys int) *disk.Disk {
	t.Helper()
	b := founded(t, 40, 0)
	for n := range keys {
		if _, errno := access.NewKey(b.x, secret(n), 3, 10+n); errno != api.OK {
			t.Errorf("NewKey: %d", errno)
		}
	}
	return b.d
}

// R2: several at the same time: nothing is shared that is not handed in.
func TestAtTheSameTime(t *testing.T) {
	keys := []api.Key{three(), {Number: 4, Secret: secret(4), From: 15, Until: 50}}
	want := keptDisk(t, 20).Blocks()
	var group sync.WaitGroup
	for n := range 16 {
		group.Go(func() {
			for m := range 100 {
				c := claims()
				c.Number = 1 + 100*n + m
				s, errno := access.Sign(three(), "home", c)
				got, verified := access.Verify(keys, "home", s, 20)
				if errno != api.OK || verified != api.OK || !same(got, c) {
					t.Errorf("%d, %d: %#v", errno, verified, got)
				}
				if k, _ := access.Current(keys, 20); k != keys[1] {
					t.Errorf("%v", k)
				}
			}
			if !slices.Equal(keptDisk(t, 20).Blocks(), want) {
				t.Error("other blocks have come of the same calls")
			}
		})
	}
	group.Wait()
}

// R2: the same each time.
func TestSameEachTime(t *testing.T) {
	want := keptDisk(t, 40).Blocks()
	for n := range 5 {
		if !slices.Equal(keptDisk(t, 40).Blocks(), want) {
			t.Fatalf("%d: another disk", n)
		}
	}
	first := fmt.Sprint(access.Verify([]api.Key{three()}, "home", example, 20))
	for range 100 {
		if fmt.Sprint(access.Verify([]api.Key{three()}, "home", example, 20)) != first {
			t.Fatal("another answer")
		}
	}
}
