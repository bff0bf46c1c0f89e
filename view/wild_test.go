package view_test

import (
	"fmt"
	"iter"
	"math/rand"
	"slices"
	"strings"
	"testing"
	"time"

	"latchkey/api"
	"latchkey/node"
	"latchkey/view"
)

// laid is a store in which pages stand as somebody laid them down, whether these are a tree or not: the first one on the page 2.
func laid(t *testing.T, blocks, root int, pages ...api.Page) *store {
	t.Helper()
	s := began(t, blocks)
	pages = slices.Clone(pages)
	for i := range pages {
		pages[i].Number = 2 + i
	}
	wantErrno(t, "Commit", s.p.Commit(pages, root, n16, nil), api.OK)
	return s
}

// leaf is the page of one of keys and values, by turns.
func leaf(texts ...string) api.Page {
	page := api.Page{Kind: api.PageLeaf}
	body := []byte{byte(len(texts) / 2)}
	for _, text := range texts {
		body = append(append(body, byte(len(text))), text...)
	}
	page.Body = string(body)
	return page
}

// inner is the page of an inner node; its keys stand with a space between each two.
func inner(keys string, kids ...int) api.Page {
	body := []byte{byte(len(strings.Fields(keys)))}
	for _, key := range strings.Fields(keys) {
		body = append(append(body, byte(len(key))), key...)
	}
	return api.Page{Kind: api.PageInner, Links: kids, Body: string(body)}
}

// ends says that something ends soon.
func ends(t *testing.T, do func()) {
	t.Helper()
	done := make(chan struct{})
	go func() {
		defer close(done)
		do()
	}()
	select {
	case <-done:
	case <-time.After(30 * time.Second):
		t.Fatal("a call does not end")
	}
}

// asked asks whatever may be asked of a view; with an error all else is nothing.
func asked(t *testing.T, v *view.View, texts []string) {
	t.Helper()
	note := func(what string, errno api.Errno, nothing bool) {
		if errno != api.OK && (errno != api.ErrTreeForm && errno != api.ErrViewPlace || !nothing) {
			t.Errorf("%s: %d, and nothing else: %v", what, errno, nothing)
		}
	}
	for _, text := range texts {
		value, there, errno := v.Get(text)
		if text != "" || errno != api.ErrTreeKey {
			note("Get", errno, value == "" && !there)
		}
		for _, to := range append(texts, "") {
			wantOrder(t, v.Up(text, to), strings.Compare)
			wantOrder(t, v.Down(text, to), func(a, b string) int { return strings.Compare(b, a) })
		}
		for _, move := range []func() (bool, api.Errno){v.Next, v.Prev} {
			is, errno := v.Seek(text)
			note("Seek", errno, !is)
			for range 40 {
				pair, errno := v.Here()
				note("Here", errno, pair == api.Pair{})
				is, errno = move()
				note("Next or Prev", errno, !is)
			}
		}
	}
	n, errno := v.Count()
	note("Count", errno, n == 0)
}

// wantOrder says that keys rise, or fall, whatever they are gathered from.
func wantOrder(t *testing.T, loop iter.Seq2[string, string], compare func(a, b string) int) {
	t.Helper()
	last, n := "", 0
	for key := range loop {
		if n > 0 && compare(last, key) >= 0 {
			t.Errorf("%q behind %q", key, last)
		}
		last = key
		n++
	}
}

// Pages that are no tree, or an unsound one: each call ends, and so do loops.
func TestNoTrees(t *testing.T) {
	right := leaf("a", "1")
	for name, pages := range map[string][]api.Page{
		"another kind":         {{Kind: 3, Body: right.Body}},
		"no body":              {{Kind: api.PageLeaf}},
		"a leaf without keys":  {leaf()},
		"an inner without any": {inner("", 3), right},
		"keys that fall":       {leaf("b", "", "a", "")},
		"an empty key":         {leaf("", "1", "a", "2")},
		"a kid that is wrong":  {inner("m", 3, 4), right, {Kind: 2, Body: "x"}},
		"itself on the left":   {inner("m", 2, 3), leaf("n", "")},
		"itself on the right":  {inner("c", 3, 2), right},
		"by two":               {inner("m", 3, 4), inner("k", 5, 2), leaf("n", ""), right},
		"twice one leaf":       {inner("m", 3, 4), inner("c", 5, 6), inner("p", 5, 6), right, right},
		"poor leaves":          {inner("c m", 3, 4, 5), right, leaf("d", ""), leaf("n", "")},
		"unlike deep":          {inner("m", 3, 4), right, inner("n", 5, 6), leaf("m", ""), leaf("n", "")},
		"out of bounds":        {inner("c m", 3, 4, 5), leaf("z", ""), leaf("a", ""), leaf("b", "")},
		"back by next":         {inner("c m", 3, 4, 5), leaf("b", ""), leaf("d", ""), leaf("a", "")},
		"back by prev":         {inner("c m", 3, 4, 5), leaf("z", ""), leaf("d", ""), leaf("n", "")},
		"one key twice":        {inner("c m", 3, 4, 5), right, right, right},
		"one key ahead":        {inner("c", 3, 4), leaf("d", ""), leaf("d", "")},
	} {
		t.Run(name, func(t *testing.T) {
			s := laid(t, 16, 2, pages...)
			ends(t, func() {
				v := taken(t, s.p)
				asked(t, v, []string{"", "a", "b", "c", "d", "m", "n", "z"})
				wantErrno(t, "Close", v.Close(), api.OK)
				wantErrno(t, "Close", v.Close(), api.ErrViewClosed)
				wantHeld(t, s.p, 0)
			})
			v := taken(t, s.p)
			wantGet(t, v, "", "", false, api.ErrTreeKey)
			dead(t, s.d)
			wantRefused(t, v, api.ErrDead, api.ErrTreeKey)
		})
	}
}

// Where pairs are out of their order, loops end ahead of the first such one, and calls refuse it.
func TestOrderRefused(t *testing.T) {
	v := taken(t, laid(t, 16, 2, inner("c m", 3, 4, 5), leaf("b", ""), leaf("d", ""), leaf("a", "")).p)
	wantLoop(t, "Up", v.Up("", ""), pairs("b", "", "d", ""))
	wantCount(t, v, 0, api.ErrTreeForm)
	wantSeek(t, v, "d", true, api.OK)
	wantNext(t, v, false, api.ErrTreeForm)
	wantHere(t, v, "d", "")
	wantSeek(t, v, "e", false, api.ErrTreeForm)
	wantHere(t, v, "d", "")
	v = taken(t, laid(t, 16, 2, inner("c m", 3, 4, 5), leaf("z", ""), leaf("d", ""), leaf("n", "")).p)
	wantLoop(t, "Down", v.Down("", ""), pairs("n", "", "d", ""))
	wantSeek(t, v, "d", true, api.OK)
	wantPrev(t, v, false, api.ErrTreeForm)
	wantHere(t, v, "d", "")
}

// Where that is behind more pairs than a tree tells at once, Count has none of them.
func TestOrderRefusedLate(t *testing.T) {
	var keys []string
	var kids []int
	pages := []api.Page{{}}
	for n := range 45 {
		var texts []string
		for i := range 96 {
			texts = append(texts, string([]byte{byte('A' + n), byte('!' + i)}), "")
		}
		if n == 44 {
			texts = []string{"A", ""}
		}
		keys = append(keys, string([]byte{byte('A' + n)}))
		kids = append(kids, 3+n)
		pages = append(pages, leaf(texts...))
	}
	pages[0] = inner(strings.Join(keys[1:], " "), kids...)
	s := laid(t, 60, 2, pages...)
	wantCount(t, taken(t, s.p), 0, api.ErrTreeForm)
}

// Pages drawn at random, of which some name one another as they like.
func TestWildPages(t *testing.T) {
	t.Parallel()
	letters := strings.Split("acegikmoqsuw", "")
	r := rand.New(rand.NewSource(60))
	for range 500 {
		count := 1 + r.Intn(12)
		var l []api.Page
		for range count {
			l = append(l, wildPage(t, r, letters, count))
		}
		s := laid(t, 40, 2+r.Intn(count), l...)
		ends(t, func() {
			v := taken(t, s.p)
			asked(t, v, []string{"", "b", "k", "z"})
			wantErrno(t, "Close", v.Close(), api.OK)
		})
	}
}

// wildPage is that of a right node, but for whom it names.
func wildPage(t *testing.T, r *rand.Rand, letters []string, pages int) api.Page {
	t.Helper()
	var keys, texts []string
	for _, i := range slices.Sorted(slices.Values(r.Perm(len(letters))[:1+r.Intn(4)])) {
		keys = append(keys, letters[i])
		texts = append(texts, letters[i], fmt.Sprint(r.Intn(100)))
	}
	page := leaf(texts...)
	if r.Intn(2) == 0 && pages > len(keys) {
		var kids []int
		for _, i := range r.Perm(pages)[:len(keys)+1] {
			kids = append(kids, 2+i)
		}
		page = inner(strings.Join(keys, " "), kids...)
	}
	_, errno := node.Parse(page)
	wantErrno(t, "Parse", errno, api.OK)
	return page
}

// A view whose pin somebody else has taken away, and whose pages are gone: nothing is promised, but that each call ends.
func TestPinTakenAway(t *testing.T) {
	r := rand.New(rand.NewSource(61))
	for range 60 {
		s := having(t, 80, remote(30))
		v := taken(t, s.p)
		wantSeek(t, v, far(3), true, api.OK)
		wantErrno(t, "Unpin", s.p.Unpin(1), api.OK)
		for range 5 {
			for range 1 + r.Intn(10) {
				s.x.Put(far(r.Intn(60)), val(r.Intn(200)))
			}
			wantErrno(t, "Commit", s.x.Commit(m16), api.OK)
			ends(t, func() {
				v.Get(far(r.Intn(60)))
				wantOrder(t, v.Up("", ""), strings.Compare)
				wantOrder(t, v.Down("", ""), func(a, b string) int { return strings.Compare(b, a) })
				v.Count()
				v.Next()
				v.Prev()
				v.Here()
				v.Seek(far(r.Intn(60)))
			})
		}
		wantErrno(t, "Close", v.Close(), api.OK)
	}
}
