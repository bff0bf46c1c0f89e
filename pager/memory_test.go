package pager_test

import (
	"math/rand"
	"runtime"
	"slices"
	"strings"
	"sync"
	"testing"
	"unsafe"
	"weak"

	"latchkey/api"
	"latchkey/disk"
	"latchkey/pager"
)

// memory is a piece of it: first and last byte.
type memory [2]uintptr

func textMemory(texts ...string) []memory {
	var all []memory
	for _, s := range texts {
		if p := uintptr(unsafe.Pointer(unsafe.StringData(s))); len(s) > 0 {
			all = append(all, memory{p, p + uintptr(len(s)) - 1})
		}
	}
	return all
}

// listMemory is where a list stands, with its spare room.
func listMemory[T any](l []T) []memory {
	var zero T
	size := uintptr(cap(l)) * unsafe.Sizeof(zero)
	if size == 0 {
		return nil
	}
	p := uintptr(unsafe.Pointer(unsafe.SliceData(l)))
	return []memory{{p, p + size - 1}}
}

// share says whether some of these pieces lie over some of those.
func share(these, those []memory) bool {
	for _, a := range these {
		for _, b := range those {
			if a[0] <= b[1] && b[0] <= a[1] {
				return true
			}
		}
	}
	return false
}

// overlap says whether some of these pieces lie over one another.
func overlap(all []memory) bool {
	for n := range all {
		if share(all[n:n+1], all[n+1:]) {
			return true
		}
	}
	return false
}

// roomy is a list with spare room in which something stands.
func roomy[T any](l []T, behind ...T) []T {
	whole := append(slices.Clone(l), behind...)
	return whole[:len(l)]
}

// whole is a list with its spare room.
func whole[T any](l []T) []T { return l[:cap(l)] }

// R2: lists that are handed in, and those within, stay, and what stands behind them in their memory.
func TestHandedInStays(t *testing.T) {
	r := rand.New(rand.NewSource(30))
	for range 300 {
		x := newPair(t, r)
		for range 6 {
			c := x.m.anyCommit(r)
			if r.Intn(3) == 0 {
				c = x.m.spoil(r, c)
			}
			for n, p := range c.fresh {
				c.fresh[n].Links = roomy(p.Links, 77, 78)
			}
			c.fresh, c.gone = roomy(c.fresh, api.Page{Kind: 9}), roomy(c.gone, 79)
			fresh, gone := slices.Clone(whole(c.fresh)), slices.Clone(whole(c.gone))
			var links [][]int
			for _, p := range c.fresh {
				links = append(links, slices.Clone(whole(p.Links)))
			}
			x.commit(t, c)
			if !slices.EqualFunc(whole(c.fresh), fresh, samePage) || !slices.Equal(whole(c.gone), gone) {
				t.Fatal("a list that was handed in has changed")
			}
			for n, p := range c.fresh {
				if _, errno := pager.PrintPage(p); errno != api.OK && errno != api.ErrPagerPage {
					t.Fatalf("PrintPage: %d", errno)
				}
				if !slices.Equal(whole(p.Links), links[n]) {
					t.Fatal("a list within has changed")
				}
			}
		}
	}
}

// R2: what is handed in is not kept: what becomes of it changes nothing.
func TestHandedInIsNotKept(t *testing.T) {
	_, p := grown(t)
	links, gone := []int{2, 3}, []int{4}
	l := []api.Page{page(5, "five", links...)}
	l[0].Links = links
	wantCommit(t, p, l, 5, n16, gone, api.OK)
	links[0], links[1], gone[0], l[0] = 7, 7, 2, api.Page{}
	wantRead(t, p, born(page(5, "five", 2, 3), 4))
	wantLast(t, p, 4, 5, n16, 2, 3, 5)
	wantNext(t, p, 4)
}

// R2: what comes out is the asker's alone: what becomes of it changes nothing.
func TestAnswersAreTheAskers(t *testing.T) {
	_, p := grown(t)
	l := p.Reached()
	next, _ := p.Next(3)
	x, _ := p.Read(4)
	for _, l := range [][]int{l, next, x.Links} {
		for n := range whole(l) {
			whole(l)[n] = 1
		}
	}
	wantLast(t, p, 3, 4, m16, 2, 3, 4)
	wantNext(t, p, 5, 6, 7)
	wantRead(t, p, born(page(4, "four", 2, 3), 3))
}

// R2 and the language's rule 7: what comes out is new memory, spare room and texts too.
func TestNewMemory(t *testing.T) {
	d := fresh(t, 8)
	note := strings.Clone(m16)
	wantErrno(t, "Format", pager.Format(d, note), api.OK)
	p := mounted(t, d)
	l := []api.Page{page(2, strings.Clone("body")), page(3, strings.Clone("root"), 2)}
	wantCommit(t, p, l, 3, note, nil, api.OK)
	in := slices.Concat(listMemory(l), listMemory(l[1].Links), textMemory(note, l[0].Body, l[1].Body))
	var lists [][]int // all are held until their memory is told, lest one be laid where another one was
	var texts []string
	for range 2 {
		next, _ := p.Next(4)
		x, _ := p.Read(3)
		y, _ := p.Read(2)
		lists = append(lists, p.Reached(), next, x.Links)
		texts = append(texts, p.Note(), x.Body, y.Body)
	}
	q := mounted(t, d)
	texts = append(texts, q.Note())
	lists = append(lists, q.Reached())
	out := textMemory(texts...)
	for _, l := range lists {
		out = append(out, listMemory(l)...)
	}
	if share(out, in) || overlap(out) {
		t.Error("an answer shares memory with another one, or with what was handed in")
	}
	runtime.KeepAlive([]any{note, l, lists, texts})
}

// The language's rule 7: what is printed and read shares no memory with what was handed in.
func TestNewMemoryOfForms(t *testing.T) {
	x := page(5, strings.Clone(body(488)))
	block, _ := pager.PrintPage(x)
	y, _ := pager.ParsePage(block)
	z := page(5, strings.Clone("body"), 7, 8)
	other, _ := pager.PrintPage(z)
	w, _ := pager.ParsePage(other)
	note := strings.Clone(n16)
	head, _ := pager.PrintHead(1, 2, 8, note)
	_, _, _, read, errno := pager.ParseHead(head)
	wantErrno(t, "ParseHead", errno, api.OK)
	all := textMemory(x.Body, block, y.Body, z.Body, other, w.Body, note, head, read)
	all = slices.Concat(all, listMemory(z.Links), listMemory(w.Links))
	if len(all) != 11 || overlap(all) {
		t.Errorf("of %d pieces some lie over one another", len(all))
	}
	runtime.KeepAlive([]any{x, block, y, z, other, w, note, head, read})
}

// great is a text of many bytes, and what tells whether somebody holds it.
func great() (string, weak.Pointer[byte]) {
	b := make([]byte, 1<<20)
	for n := range b {
		b[n] = byte('a' + n>>16)
	}
	return unsafe.String(&b[0], len(b)), weak.Make(&b[0])
}

// The language's rule 7: a text that is handed in is not kept, nor the greater one that it is a part of.
func TestTextIsNotKept(t *testing.T) {
	text, held := great()
	d := fresh(t, 8)
	wantErrno(t, "Format", pager.Format(d, text[:16]), api.OK)
	p := mounted(t, d)
	wantCommit(t, p, []api.Page{page(2, text[100:400])}, 2, text[16:32], nil, api.OK)
	x, errno := pager.ParsePage(text[512:1024])
	wantErrno(t, "ParsePage", errno, api.ErrPagerPage)
	text = ""
	runtime.GC()
	if held.Value() != nil {
		t.Error("a text that was handed in is kept")
	}
	wantLast(t, p, 2, 2, strings.Repeat("a", 16), 2)
	wantRead(t, p, born(page(2, strings.Repeat("a", 300)), 2))
	runtime.KeepAlive(x)
}

// The language's rule 8: a pager keeps no pages, only who needs them.
func TestNoMoreIsKept(t *testing.T) {
	room := func() uint64 {
		var m runtime.MemStats
		runtime.GC()
		runtime.ReadMemStats(&m)
		return m.HeapAlloc
	}
	d := fresh(t, 4096)
	wantErrno(t, "Format", pager.Format(d, n16), api.OK)
	p := mounted(t, d)
	l := make([]api.Page, 4094)
	for n := range l {
		l[n] = page(n+2, body(488))
	}
	wantCommit(t, p, l, 2, n16, nil, api.OK)
	before := room()
	for range 2 {
		wantCommit(t, p, nil, 0, n16, p.Reached(), api.OK)
		wantCommit(t, p, l, 2, n16, nil, api.OK)
		for n := range l {
			wantRead(t, p, born(l[n], p.Generation()))
		}
	}
	if after := room(); after > before+1<<20 {
		t.Errorf("%d bytes are held, %d were", after, before)
	}
	runtime.KeepAlive(l)
}

// R2: things that have no part in common do not disturb one another, also at the same time.
func TestAtTheSameTime(t *testing.T) {
	var all sync.WaitGroup
	l := []api.Page{page(2, "two"), page(3, "three", 2)}
	for range 8 {
		all.Go(func() {
			d, _ := disk.New(8)
			if pager.Format(d, n16) != api.OK {
				t.Error("Format")
			}
			p, _ := pager.Mount(d)
			for range 50 {
				if p.Commit(l, 3, n16, nil) != api.OK {
					t.Error("Commit")
				}
				if x, errno := p.Read(3); errno != api.OK || !slices.Equal(x.Links, []int{2}) {
					t.Errorf("Read: %d", errno)
				}
				if p.Commit(nil, 0, n16, []int{2, 3}) != api.OK {
					t.Error("Commit")
				}
			}
			if p.Generation() != 101 || p.Free() != 6 {
				t.Errorf("Generation: %d, Free: %d", p.Generation(), p.Free())
			}
		})
	}
	all.Wait()
}
