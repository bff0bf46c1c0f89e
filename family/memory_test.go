package family_test

import (
	"math/rand"
	"reflect"
	"runtime"
	"slices"
	"strings"
	"sync"
	"testing"
	"unsafe"
	"weak"

	"latchkey/api"
	"latchkey/family"
)

// memory is a piece of it: first and last byte.
type memory [2]uintptr

// memoryOf is where the texts and lists of records stand, with their spare room; one byte alone may be the language's own.
func memoryOf(records ...any) []memory {
	var all []memory
	text := func(s string) {
		if p := uintptr(unsafe.Pointer(unsafe.StringData(s))); len(s) > 1 {
			all = append(all, memory{p, p + uintptr(len(s)) - 1})
		}
	}
	for _, record := range records {
		v := reflect.ValueOf(record)
		for n := range v.NumField() {
			switch x := v.Field(n).Interface().(type) {
			case string:
				text(x)
			case []string:
				for _, s := range x {
					text(s)
				}
				if p := uintptr(unsafe.Pointer(unsafe.SliceData(x))); cap(x) > 0 {
					all = append(all, memory{p, p + uintptr(cap(x))*unsafe.Sizeof("") - 1})
				}
			}
		}
	}
	return all
}

// overlap says whether some of these pieces lie over one another.
func overlap(all []memory) bool {
	for n, a := range all {
		for _, b := range all[n+1:] {
			if a[0] <= b[1] && b[0] <= a[1] {
				return true
			}
		}
	}
	return false
}

// answers are all records that the calls make of what is handed in, the next token's secret among it; none is a zero one.
func answers(t *testing.T, b birth, next string) []any {
	t.Helper()
	f, k, errno := b.begin()
	g, spent, fresh, errno2 := family.Rotate(f, k, 3, next, b.now)
	h, errno3 := family.Finish(g, api.Revoked, b.now)
	info := family.Tell(g, fresh, b.now)
	if errno != api.OK || errno2 != api.OK || errno3 != api.OK || !info.Active {
		t.Fatalf("%d, %d, %d, %#v", errno, errno2, errno3, info)
	}
	return []any{f, k, g, spent, fresh, h, info}
}

// fit is what is asked with a scope, in texts that no other one holds.
func fit(scope []string) birth {
	b := usual()
	b.subject, b.secret, b.client.Name = strings.Clone("subject"), secret("s"), strings.Clone("client")
	b.scope = nil
	for _, name := range scope {
		b.scope = append(b.scope, strings.Clone(name))
	}
	return b
}

// R2 and the language's rule 7: no answer shares memory with what was handed in, nor with another answer.
func TestNewMemory(t *testing.T) {
	for _, l := range rightScopes() {
		b, next := fit(l), secret("n")
		out := append(answers(t, b, next), answers(t, b, next)...)
		all := append(memoryOf(out...), memoryOf(b.client, api.Family{Subject: b.subject, Scope: b.scope}, api.Token{Hash: b.secret, Secret: next})...)
		if len(all) < 30 || overlap(all) {
			t.Errorf("scope %q: %d pieces, overlapping: %v", l, len(all), overlap(all))
		}
		runtime.KeepAlive(out)
	}
}

// roomy is a list with spare room behind it, in which something stands, and that memory as a whole.
func roomy(l []string) (list, whole []string) {
	whole = append(slices.Clone(l), "behind", "it", "", "stands")
	return whole[:len(l)], whole
}

// R2: a list that is handed in stays as it is, and what stands behind it in its memory; written over then, it changes no answer.
func TestScopesHandedIn(t *testing.T) {
	for _, l := range rightScopes() {
		b := fit(l)
		var wholes [][]string
		lend := func(l []string) []string {
			list, whole := roomy(l)
			wholes = append(wholes, whole)
			return list
		}
		b.scope, b.client.Scope = lend(l), lend(l)
		f, k, _ := b.begin()
		f.Scope = lend(f.Scope)
		g, _, fresh, _ := family.Rotate(f, k, 3, secret("n"), 110)
		g.Scope = lend(g.Scope)
		h, _ := family.Finish(g, api.Reused, 120)
		info := family.Tell(g, fresh, 120)
		for _, whole := range wholes {
			if !slices.Equal(whole, append(slices.Clone(l), "behind", "it", "", "stands")) {
				t.Fatalf("%q became %q", l, whole)
			}
			for n := range whole {
				whole[n] = "written-over"
			}
		}
		again, _, _ := fit(l).begin()
		for _, got := range [][]string{h.Scope, info.Scope, again.Scope} {
			if !slices.Equal(got, l) {
				t.Errorf("%q became %q", l, got)
			}
		}
	}
}

// What came out may be written over and grown: neither what went in nor another answer becomes another one.
func TestScopesThatCameOut(t *testing.T) {
	spoil := func(l []string) {
		whole := l[:cap(l)]
		for n := range whole {
			whole[n] = "written-over"
		}
		_ = append(l, "grown", "grown")
	}
	for _, l := range rightScopes() {
		b := fit(l)
		f, k, _ := b.begin()
		kept := f
		kept.Scope = slices.Clone(f.Scope)
		g, _, fresh, _ := family.Rotate(f, k, 3, secret("n"), 110)
		two, _, _, _ := family.Rotate(f, k, 3, secret("n"), 110)
		h, _ := family.Finish(g, api.Reused, 120)
		info := family.Tell(g, fresh, 120)
		spoil(two.Scope)
		spoil(h.Scope)
		spoil(info.Scope)
		if !same(f, kept) || !slices.Equal(g.Scope, l) || !slices.Equal(b.scope, l) {
			t.Errorf("%q: %q, %q, %q", l, f.Scope, g.Scope, b.scope)
		}
		spoil(g.Scope)
		spoil(f.Scope)
		if other, _, _ := b.begin(); !slices.Equal(b.scope, l) || !slices.Equal(other.Scope, l) {
			t.Errorf("%q: %q, %q", l, b.scope, other.Scope)
		}
	}
}

// R2: texts and lists that are handed in are not kept: nobody holds them behind the calls.
func TestNothingIsKept(t *testing.T) {
	var texts []weak.Pointer[byte]
	var lists []weak.Pointer[string]
	var out []any
	func() {
		b, next := fit(eight()), secret("n")
		b.subject, b.client.Name = many(16, "s"), many(16, "c")
		for _, s := range append([]string{b.subject, b.client.Name, b.secret, next}, b.scope[5:]...) { // a shorter one may lie in one block with others, which are held
			texts = append(texts, weak.Make(unsafe.StringData(s)))
		}
		lists = append(lists, weak.Make(unsafe.SliceData(b.scope)), weak.Make(unsafe.SliceData(b.client.Scope)))
		out = answers(t, b, next)
	}()
	gone := func(value func() bool) {
		t.Helper()
		for n := 0; value(); n++ {
			if runtime.GC(); n == 10 {
				t.Fatal("something is kept")
			}
		}
	}
	for _, w := range texts {
		gone(func() bool { return w.Value() != nil })
	}
	for _, w := range lists {
		gone(func() bool { return w.Value() != nil })
	}
	runtime.KeepAlive(out)
}

// R2: by several at the same time, over the same lists, too.
func TestAtTheSameTime(t *testing.T) {
	shared, families := usual(), someFamilies()
	var group sync.WaitGroup
	for seed := range 8 {
		group.Go(func() {
			r := rand.New(rand.NewSource(int64(seed)))
			for range 300 {
				if got := answers(t, shared, secret("n")); !same(got[0].(api.Family), api.Family{ID: 1, Client: "app", Subject: "ann", Scope: []string{"read"}, Created: 100, Used: 100, Idle: 50, Absolute: 120, Grace: 10, Gen: 1, Token: 2, State: api.Active}) {
					t.Errorf("%#v", got[0])
				}
				f := pick(r, families...)
				k := pick(r, ofFamily(f)...)
				wantAll(t, f, k, 5, secret("n"), 2+r.Intn(3), r.Intn(50), pick(r, nearTimes(f, k)...))
			}
		})
	}
	group.Wait()
}
