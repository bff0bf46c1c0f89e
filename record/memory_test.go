package record_test

import (
	"math/rand"
	"reflect"
	"runtime"
	"slices"
	"strings"
	"sync"
	"testing"
	"unsafe"
	"weak"

	"latchkey/api"
	"latchkey/record"
)

// memory is a piece of it: first and last byte.
type memory [2]uintptr

// textMemory is where texts stand; one byte alone may be the language's own.
func textMemory(texts ...string) []memory {
	var all []memory
	for _, s := range texts {
		if p := uintptr(unsafe.Pointer(unsafe.StringData(s))); len(s) > 1 {
			all = append(all, memory{p, p + uintptr(len(s)) - 1})
		}
	}
	return all
}

// memoryOf is where the texts and lists of a record stand, with their spare room.
func memoryOf[R any](record *R) []memory {
	var all []memory
	v := reflect.ValueOf(record).Elem()
	for n := range v.NumField() {
		switch x := v.Field(n).Interface().(type) {
		case string:
			all = append(all, textMemory(x)...)
		case []string:
			all = append(all, textMemory(x...)...)
			if cap(x) > 0 {
				p := uintptr(unsafe.Pointer(unsafe.SliceData(x)))
				all = append(all, memory{p, p + uintptr(cap(x))*unsafe.Sizeof("") - 1})
			}
		}
	}
	return all
}

// share says whether some of these pieces lie over some of those.
func share(these, those []memory) bool {
	for _, a := range these {
		for _, b := range those {
			if a[0] <= b[1] && b[0] <= a[1] {
				return true
			}
		}
	}
	return false
}

// overlap says whether some of these pieces lie over one another.
func overlap(all []memory) bool {
	for n := range all {
		if share(all[n:n+1], all[n+1:]) {
			return true
		}
	}
	return false
}

// clonePair is a pair in memory of its own.
func clonePair(p api.Pair) api.Pair {
	return api.Pair{Key: strings.Clone(p.Key), Value: strings.Clone(p.Value)}
}

// wantNewMemory is that what comes out shares nothing with what was handed in, and no two parts of it with one another.
func wantNewMemory[R any](t *testing.T, k kind[R], records []R) {
	t.Helper()
	for _, rec := range records {
		one, _ := k.print(rec)
		two, _ := k.print(rec)
		in := clonePair(one)
		first, _ := k.parse(in)
		second, _ := k.parse(in)
		printed := textMemory(one.Key, one.Value, two.Key, two.Value)
		parsed := slices.Concat(memoryOf(&first), memoryOf(&second))
		if share(printed, memoryOf(&rec)) || share(parsed, textMemory(in.Key, in.Value)) {
			t.Errorf("%s %#v: an answer shares memory with what was handed in", k.what, rec)
		}
		if overlap(slices.Concat(printed, parsed)) {
			t.Errorf("%s %#v: answers share memory", k.what, rec)
		}
		runtime.KeepAlive([]any{one, two, in, first, second})
	}
}

// R2 and the language's rule 7.
func TestNewMemory(t *testing.T) {
	wantNewMemory(t, clients(), someClients())
	wantNewMemory(t, families(), someFamilies())
	wantNewMemory(t, tokens(), someTokens())
	wantNewMemory(t, codes(), someCodes())
	wantNewMemory(t, keys(), someKeys())
	wantNewMemory(t, events(), someEvents())
	wantNewMemory(t, chains(), someChains())
}

func TestNewMemoryOfEntries(t *testing.T) {
	for _, f := range someFamilies() {
		l, _ := record.OfFamily(f)
		m, _ := record.OfFamily(f)
		out := textMemory(l[0].Key, l[1].Key, m[0].Key, m[1].Key)
		if share(out, memoryOf(&f)) || overlap(out) {
			t.Errorf("%#v: entries share memory", f)
		}
		got := look(l[1])
		if share(textMemory(got.text), out) {
			t.Errorf("%#v: the subject shares memory", f)
		}
		whole := l[:cap(l)]
		for n := range whole {
			whole[n] = api.Pair{Key: "written", Value: "over"}
		}
		_ = append(l, whole...)
		if !slices.Equal(m, entries(f)) {
			t.Errorf("%#v: entries became %q", f, m)
		}
		wantEntries(t, f)
	}
	p := clonePair(entry(usualToken()))
	if got := look(p); share(textMemory(got.text), textMemory(p.Key, p.Value)) {
		t.Error("the value that ParseIndex tells shares memory")
	}
}

// roomy is a list with spare room behind it, in which something stands, and that memory as a whole.
func roomy(l []string) (list, whole []string) {
	whole = append(slices.Clone(l), "behind", "it", "", "stands")
	return whole[:len(l)], whole
}

// R2: the list of a scope that is handed in stays as it is, and what stands behind it, and may be written over then.
func TestScopeStays(t *testing.T) {
	for _, l := range someScopes() {
		list, whole := roomy(l)
		was := slices.Clone(whole)
		c, f, a := usualClient(), usualFamily(), usualCode()
		c.Scope, f.Scope, a.Scope = list, list, list
		call := func() []any {
			p, e := record.PrintClient(c)
			q, g := record.PrintFamily(f)
			s, h := record.PrintCode(a)
			m, i := record.OfFamily(f)
			return []any{p, e, q, g, s, h, slices.Clone(m), i, record.End(f)}
		}
		first, second := call(), call()
		if !slices.Equal(whole, was) {
			t.Fatalf("%q became %q", was, whole)
		}
		for n := range whole {
			whole[n] = "written-over"
		}
		if !reflect.DeepEqual(first, second) {
			t.Errorf("scope %q: %#v, and then %#v", l, first, second)
		}
		copy(whole, was)
		if third := call(); !reflect.DeepEqual(first, third) {
			t.Errorf("scope %q: %#v, and then %#v", l, first, third)
		}
	}
}

// What came out may be written over and grown, without another answer's being changed.
func TestScopeWrittenOver(t *testing.T) {
	for _, c := range someClients() {
		p, _ := clientPair(c)
		one, _ := record.ParseClient(p)
		two, _ := record.ParseClient(p)
		whole := one.Scope[:cap(one.Scope)]
		for n := range whole {
			whole[n] = "written-over"
		}
		_ = append(one.Scope, "grown", "grown", "grown")
		if !same(two, c) {
			t.Errorf("%#v became %#v", c, two)
		}
		clients().wantPair(t, "again", c, p)
	}
	for _, f := range someFamilies() {
		p, _ := familyPair(f)
		one, _ := record.ParseFamily(p)
		for n := range one.Scope {
			one.Scope[n] = "written-over"
		}
		_ = append(one.Scope, "grown")
		families().wantPair(t, "again", f, p)
	}
	for _, c := range someCodes() {
		p, _ := codePair(c)
		one, _ := record.ParseCode(p)
		for n := range one.Scope {
			one.Scope[n] = "written-over"
		}
		_ = append(one.Scope, "grown")
		codes().wantPair(t, "again", c, p)
	}
}

// Texts that are handed in are not kept.
func TestTextIsNotKept(t *testing.T) {
	var kept []weak.Pointer[byte]
	var answers []any
	func() {
		for _, p := range append(somePairs(), someEntries()...) {
			p = clonePair(p)
			for _, text := range []string{p.Key, p.Value} {
				if len(text) >= 16 { // a shorter one may lie in one block with others, which are held
					kept = append(kept, weak.Make(unsafe.StringData(text)))
				}
			}
			takers(p)
			c, _ := record.ParseClient(p)
			f, _ := record.ParseFamily(p)
			k, _ := record.ParseToken(p)
			answers = append(answers, c, f, k, look(p))
		}
	}()
	if len(kept) < 40 {
		t.Errorf("only %d texts are watched", len(kept))
	}
	for i, w := range kept {
		for n := 0; w.Value() != nil; n++ {
			if runtime.GC(); n == 10 {
				t.Fatalf("the text %d is kept", i)
			}
		}
	}
	runtime.KeepAlive(answers)
}

// R2: the same handed in again gives the same, whatever was asked between; also by several at the same time.
func TestSameAgain(t *testing.T) {
	var group sync.WaitGroup
	for seed := range 8 {
		group.Go(func() {
			r := rand.New(rand.NewSource(int64(seed)))
			for range 300 {
				clients().wantModel(t, "again", pick(r, someClients()...))
				families().wantModel(t, "again", pick(r, someFamilies()...))
				tokens().wantModel(t, "again", pick(r, someTokens()...))
				codes().wantModel(t, "again", pick(r, someCodes()...))
				keys().wantModel(t, "again", pick(r, someKeys()...))
				events().wantModel(t, "again", pick(r, someEvents()...))
				chains().wantModel(t, "again", pick(r, someChains()...))
				families().wantModel(t, "drawn", drawn[api.Family](r))
				wantLooked(t, pick(r, someEntries()...))
				wantNote(t, within(r, 1, lastID+1), someTime(r))
			}
		})
	}
	group.Wait()
}
