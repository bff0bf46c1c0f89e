package node_test

import (
	"math/rand"
	"runtime"
	"slices"
	"strings"
	"sync"
	"testing"
	"unsafe"
	"weak"

	"latchkey/api"
	"latchkey/node"
)

// memory is a piece of it: first and last byte.
type memory [2]uintptr

func textMemory(texts ...string) []memory {
	var all []memory
	for _, s := range texts {
		if p := uintptr(unsafe.Pointer(unsafe.StringData(s))); len(s) > 0 {
			all = append(all, memory{p, p + uintptr(len(s)) - 1})
		}
	}
	return all
}

// listMemory is where a list stands, with its spare room.
func listMemory[T any](l []T) []memory {
	var zero T
	size := uintptr(cap(l)) * unsafe.Sizeof(zero)
	if size == 0 {
		return nil
	}
	p := uintptr(unsafe.Pointer(unsafe.SliceData(l)))
	return []memory{{p, p + size - 1}}
}

// nodeMemory is where a node's lists and texts stand.
func nodeMemory(n api.Node) []memory {
	lists := slices.Concat(listMemory(n.Keys), listMemory(n.Values), listMemory(n.Kids))
	return slices.Concat(lists, textMemory(n.Keys...), textMemory(n.Values...))
}

func pageMemory(p api.Page) []memory {
	return slices.Concat(listMemory(p.Links), textMemory(p.Body))
}

// overlap says whether some of these pieces lie over one another.
func overlap(all []memory) bool {
	slices.SortFunc(all, func(a, b memory) int { return int(a[0]) - int(b[0]) })
	for i := range all {
		if i > 0 && all[i-1][1] >= all[i][0] {
			return true
		}
	}
	return false
}

// own is a node whose texts, of one byte too, stand in memory of their own.
func own(n api.Node) api.Node {
	texts := func(l []string) []string {
		var copies []string
		for _, s := range l {
			copies = append(copies, string(append(make([]byte, 0, 64), s...)))
		}
		return copies
	}
	return api.Node{Leaf: n.Leaf, Keys: texts(n.Keys), Values: texts(n.Values), Kids: slices.Clone(n.Kids)}
}

// roomy is a list with spare room in which something stands.
func roomy[T any](l []T, behind ...T) []T {
	whole := append(slices.Clone(l), behind...)
	return whole[:len(l)]
}

// whole is a list with its spare room.
func whole[T any](l []T) []T { return l[:cap(l)] }

// roomyNode is a node of which each list has spare room with something in it.
func roomyNode(n api.Node) api.Node {
	return api.Node{Leaf: n.Leaf, Keys: roomy(n.Keys, "behind", "it"), Values: roomy(n.Values, "more", "of it"), Kids: roomy(n.Kids, 77, 78)}
}

// wholeNode is a copy of a node's lists, with their spare room.
func wholeNode(n api.Node) api.Node {
	return clone(api.Node{Leaf: n.Leaf, Keys: whole(n.Keys), Values: whole(n.Values), Kids: whole(n.Kids)})
}

func wantUnchanged(t *testing.T, what string, n, was api.Node) {
	t.Helper()
	if !same(wholeNode(n), was) {
		t.Fatalf("%s has changed a node that was handed in: %v, it was %v", what, wholeNode(n), was)
	}
}

// R2: lists that are handed in stay, and what stands behind them in their memory.
func TestHandedInStays(t *testing.T) {
	r := rand.New(rand.NewSource(20))
	for range 3000 {
		n, m := roomyNode(someNode(r)), roomyNode(someNode(r))
		key := "m"
		if r.Intn(2) == 0 {
			n, key, m = neighbours(r)
			n, m = roomyNode(n), roomyNode(m)
		}
		was, wasToo := wholeNode(n), wholeNode(m)
		node.Size(n)
		node.Page(n)
		node.Find(n, key)
		node.Split(n)
		wantUnchanged(t, "a call", n, was)
		node.Join(n, key, m)
		wantUnchanged(t, "Join", n, was)
		wantUnchanged(t, "Join", m, wasToo)
		if errnoOf(n) == api.OK {
			p := pageOf(n)
			p.Links = roomy(p.Links, 79, 80)
			links := slices.Clone(whole(p.Links))
			node.Parse(p)
			if !slices.Equal(whole(p.Links), links) {
				t.Fatal("Parse has changed the links that were handed in")
			}
		}
	}
}

// scribble writes over a node's lists, spare room too, and puts more behind them.
func scribble(n api.Node) {
	for _, l := range [][]string{whole(n.Keys), whole(n.Values)} {
		for i := range l {
			l[i] = "scribbled"
		}
	}
	for i := range whole(n.Kids) {
		whole(n.Kids)[i] = -1
	}
	_ = append(n.Keys, "more")
	_ = append(n.Values, "more")
	_ = append(n.Kids, 5)
}

// R2: what comes out is the asker's alone: what becomes of it changes nothing else that was handed in, or came out.
func TestAnswersAreTheAskers(t *testing.T) {
	r := rand.New(rand.NewSource(21))
	for split := 0; split < 1000; {
		n := roomyNode(grownTo(r, r.Intn(2) == 0, 718))
		was := wholeNode(n)
		a, key, b, errno := node.Split(n)
		if errno != api.OK {
			continue
		}
		split++
		m, _ := node.Join(a, key, b)
		p, _ := node.Page(a)
		c, errno := node.Parse(p)
		if errno != api.OK {
			t.Fatalf("Parse: %d", errno)
		}
		right, left := clone(b), clone(a)
		scribble(a)
		if !same(b, right) || !same(c, left) || !same(m, n) || !samePage(p, pageOf(left)) {
			t.Fatal("what is done to the left part is seen elsewhere")
		}
		scribble(b)
		scribble(m)
		for i := range whole(p.Links) {
			whole(p.Links)[i] = -1
		}
		if !same(c, left) {
			t.Fatal("what is done to a page is seen in the node that was read of it")
		}
		wantUnchanged(t, "what was done to answers", n, was)
	}
}

// R2 and the language's rule 7: what comes out is new memory, spare room and texts too.
func TestNewMemory(t *testing.T) {
	r := rand.New(rand.NewSource(22))
	for split := 0; split < 500; {
		n := own(grownTo(r, r.Intn(2) == 0, 718))
		a, key, b, errno := node.Split(n)
		if errno != api.OK {
			continue
		}
		split++
		left, right := own(a), own(b)
		parts := own(api.Node{Keys: []string{key}})
		m, errno := node.Join(left, parts.Keys[0], right)
		if errno != api.OK {
			t.Fatalf("Join: %d", errno)
		}
		p, _ := node.Page(left)
		q, _ := node.Page(right)
		c, _ := node.Parse(p)
		d, _ := node.Parse(q)
		all := slices.Concat(pageMemory(p), pageMemory(q), nodeMemory(parts), textMemory(key))
		for _, x := range []api.Node{n, a, b, left, right, m, c, d} {
			all = append(all, nodeMemory(x)...)
		}
		if overlap(longer(all)) {
			t.Fatal("answers share memory with one another, or with what was handed in")
		}
		runtime.KeepAlive([]any{n, a, key, b, left, right, parts, m, p, q, c, d})
	}
}

// longer are the pieces of more than one byte: texts of one byte stand in a table that Go has once.
func longer(all []memory) []memory {
	return slices.DeleteFunc(all, func(m memory) bool { return m[0] == m[1] })
}

// The language's rule 7: Between tells a text of its own.
func TestNewMemoryOfBetween(t *testing.T) {
	for _, c := range [][2]string{{"apple", "pear"}, {"abc", "abxyz"}, {"abc", "abc"}, {"xyz", "abc"}, {"", "abc"}, {"ab", "abcd"}} {
		a, b := strings.Clone(c[0]), strings.Clone(c[1])
		got := node.Between(a, b)
		if overlap(longer(textMemory(a, b, got))) {
			t.Errorf("Between(%q, %q) shares memory", a, b)
		}
		runtime.KeepAlive([]any{a, b, got})
	}
}

// great is a text of many bytes, and what tells whether somebody holds it.
func great() (string, weak.Pointer[byte]) {
	b := make([]byte, 1<<20)
	for n := range b {
		b[n] = byte('a' + n>>16)
	}
	return unsafe.String(&b[0], len(b)), weak.Make(&b[0])
}

// The language's rule 7: a text that is handed in is not kept, nor the greater one that it is a part of.
func TestTextIsNotKept(t *testing.T) {
	text, held := great()
	ten := func(at int) string { return text[at<<16 : at<<16+10] }
	n := leaf(ten(1), text[:150], ten(2), text[:150], ten(3), text[:150], ten(4), text[:150])
	a, key, b, errno := node.Split(n)
	wantErrno(t, "Split", errno, api.OK)
	x := api.Node{Keys: []string{ten(1)}, Kids: []int{2, 3}}
	y := api.Node{Keys: []string{ten(3)}, Kids: []int{4, 5}}
	m, errno := node.Join(x, ten(2), y)
	wantErrno(t, "Join", errno, api.OK)
	p, errno := node.Page(x)
	wantErrno(t, "Page", errno, api.OK)
	between := node.Between(ten(1), ten(2))
	not := node.Between(ten(2), ten(1))
	n, x, y, text = api.Node{}, api.Node{}, api.Node{}, ""
	ten = nil
	runtime.GC()
	if held.Value() != nil {
		t.Error("a text that was handed in is kept")
	}
	runtime.KeepAlive([]any{a, key, b, m, p, between, not})
}

func wantErrno(t *testing.T, what string, got, want api.Errno) {
	t.Helper()
	if got != want {
		t.Fatalf("%s: %d, want %d", what, got, want)
	}
}

// The language's rule 7: an empty list with spare room is not kept, either.
func TestEmptyListIsNotKept(t *testing.T) {
	kids, links := make([]int, 0, 1<<16), make([]int, 0, 1<<16)
	keys, values := make([]string, 0, 1<<16), make([]string, 0, 1<<16)
	first := []weak.Pointer[int]{weak.Make(&kids[:1][0]), weak.Make(&links[:1][0])}
	second := []weak.Pointer[string]{weak.Make(&keys[:1][0]), weak.Make(&values[:1][0])}
	n := sized(600)
	n.Kids = kids
	a, _, b, errno := node.Split(n)
	wantErrno(t, "Split", errno, api.OK)
	a.Kids, b.Kids = kids, kids
	p, errno := node.Page(a)
	wantErrno(t, "Page", errno, api.OK)
	p.Links = links
	c, errno := node.Parse(p)
	wantErrno(t, "Parse", errno, api.OK)
	none := api.Node{Leaf: true, Keys: keys, Values: values, Kids: kids}
	d, errno := node.Join(none, "a", none)
	wantErrno(t, "Join", errno, api.OK)
	q, errno := node.Page(a)
	wantErrno(t, "Page", errno, api.OK)
	x := api.Node{Keys: []string{"x"}, Kids: []int{2, 3}, Values: values}
	e, errno := node.Join(x, "y", api.Node{Keys: []string{"z"}, Kids: []int{4, 5}, Values: values})
	wantErrno(t, "Join", errno, api.OK)
	a, b, n, none, x, p = api.Node{}, api.Node{}, api.Node{}, api.Node{}, api.Node{}, api.Page{}
	kids, links, keys, values = nil, nil, nil, nil
	runtime.GC()
	for i := range 2 {
		if first[i].Value() != nil || second[i].Value() != nil {
			t.Errorf("an empty list that was handed in is kept: %d", i)
		}
	}
	runtime.KeepAlive([]any{c, d, e, q})
}

// R2: calls at the same time do not disturb one another.
func TestAtTheSameTime(t *testing.T) {
	n, in := sized(600), sizedInner(600)
	var all sync.WaitGroup
	for range 8 {
		all.Go(func() {
			for range 200 {
				for _, x := range []api.Node{n, in} {
					a, key, b, errno := node.Split(x)
					m, errnoToo := node.Join(a, key, b)
					if errno != api.OK || errnoToo != api.OK || !same(m, x) {
						t.Errorf("%v, %d, %d", m, errno, errnoToo)
					}
					p, _ := node.Page(a)
					if c, errno := node.Parse(p); errno != api.OK || !same(c, a) {
						t.Errorf("%v, %d", c, errno)
					}
				}
			}
		})
	}
	all.Wait()
}
