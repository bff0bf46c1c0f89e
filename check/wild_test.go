package check_test

import (
	"slices"
	"strings"
	"testing"
	"time"

	"latchkey/api"
)

// ends says that something ends soon.
func ends(t *testing.T, do func()) {
	t.Helper()
	done := make(chan struct{})
	go func() {
		defer close(done)
		do()
	}()
	select {
	case <-done:
	case <-time.After(30 * time.Second):
		t.Fatal("a call does not end")
	}
}

// chain are pages of which each one names the next one, and others.
func chain(blocks int, kids func(n int) []int) pages {
	p := pages{}
	for n := 2; n < blocks; n++ {
		l := kids(n)
		if len(l) == 0 {
			p[n] = leaf("k")
			continue
		}
		var keys []string
		for i := 1; i < len(l); i++ {
			keys = append(keys, strings.Repeat("k", i))
		}
		p[n] = inner(strings.Join(keys, " "), l...)
	}
	return p
}

// R1: the deepest chains of pages, and the most pages that name one another: each call ends.
func TestDeepAndWide(t *testing.T) {
	for name, kids := range map[string]func(n int) []int{
		"each names the next one and the first": func(n int) []int { return []int{2 + (n-1)%4094, 2} },
		"each names the first and the next one": func(n int) []int { return []int{2, 2 + (n-1)%4094} },
		"each names itself and the next one": func(n int) []int {
			if n == 4095 {
				return nil
			}
			return []int{n, n + 1}
		},
		"each names the next one and the one behind it": func(n int) []int {
			if n > 4093 {
				return nil
			}
			return []int{n + 1, n + 2}
		},
		"each names the next ones, the last first": func(n int) []int {
			if n > 4095-30 {
				return nil
			}
			var l []int
			for i := range 30 {
				l = append(l, n+30-i)
			}
			return l
		},
		"each names half as many": func(n int) []int {
			if 2*n+1 > 4095 {
				return nil
			}
			return []int{2*n - 1, 2 * n}
		},
	} {
		t.Run(name, func(t *testing.T) {
			t.Parallel()
			l := chain(4096, kids).image(4096, 2)
			ends(t, func() { seen{}.wantAccount(t, l) })
		})
	}
}

// A tree of the greatest depth in which each page stands once.
func TestDeepest(t *testing.T) {
	p := pages{}
	want := []int{}
	for n := 2; n < 4094; n += 2 {
		p[n], p[n+1] = inner("k", n+1, n+2), leaf("a")
		if n > 2 {
			want = append(want, api.FindNode, n)
		}
	}
	p[4094] = leaf("k")
	depths := []int{}
	for n := 5; n < 4094; n += 2 {
		depths = append(depths, api.FindDepth, n)
	}
	depths = append(depths, api.FindDepth, 4094)
	order := []int{}
	for n := 4; n < 4094; n++ { // from the second one on no key is above the lower bound k, and below the upper one
		order = append(order, api.FindOrder, n)
	}
	ends(t, func() {
		wantFound(t, "the deepest", p.image(4096, 2), slices.Concat(want, order, depths)...)
	})
}

// R1: lists of any texts.
func TestAnyTexts(t *testing.T) {
	for n := range 20 {
		for _, text := range []string{"", "x", noughts[1:], noughts + "x", strings.Repeat("LKEY", 128), strings.Repeat("\xff", 512), strings.Repeat("LP", 256)} {
			seen{}.wantAccount(t, slices.Repeat([]string{text}, n))
			l := slices.Repeat([]string{text}, n)
			if n > 1 {
				l[1] = headOf(3, 2, n)
				seen{}.wantAccount(t, l)
			}
		}
	}
	wantNoImage(t, "a great many", slices.Repeat([]string{noughts}, 1<<20))
	wantNoImage(t, "a great block", append(slices.Repeat([]string{noughts}, 8), strings.Repeat("x", 1<<26)))
}
