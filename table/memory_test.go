package table_test

import (
	"reflect"
	"runtime"
	"slices"
	"strings"
	"sync"
	"testing"
	"unsafe"
	"weak"

	"latchkey/api"
	"latchkey/table"
)

// memory is a piece of it: first and last byte.
type memory [2]uintptr

// memoryOf is where the texts and lists within something stand, with their spare room; one byte alone may be the language's own.
func memoryOf(v reflect.Value) []memory {
	var all []memory
	switch v.Kind() {
	case reflect.String:
		if s := v.String(); len(s) > 1 {
			p := uintptr(unsafe.Pointer(unsafe.StringData(s)))
			all = append(all, memory{p, p + uintptr(len(s)) - 1})
		}
	case reflect.Slice:
		if v.Cap() > 0 {
			p := v.Pointer()
			all = append(all, memory{p, p + uintptr(v.Cap())*v.Type().Elem().Size() - 1})
		}
		for n := range v.Len() {
			all = append(all, memoryOf(v.Index(n))...)
		}
	case reflect.Struct:
		for n := range v.NumField() {
			all = append(all, memoryOf(v.Field(n))...)
		}
	}
	return all
}

// wantApart is that no two of these share memory, nor two parts of one.
func wantApart(t *testing.T, what string, things ...any) {
	t.Helper()
	var all []memory
	for _, thing := range things {
		if thing != nil {
			all = append(all, memoryOf(reflect.ValueOf(thing))...)
		}
	}
	for n, a := range all {
		for _, b := range all[n+1:] {
			if a[0] <= b[1] && b[0] <= a[1] {
				t.Fatalf("%s: memory is shared", what)
			}
		}
	}
	runtime.KeepAlive(things)
}

// askHome are calls that answer records or lists at home.
func askHome() []call {
	return []call{
		getClient("app"), getClient("web"), allClients(), getFamily(3), getFamily(10), getToken(6), tokensOf(5), getCode(13), allCodes(), allKeys(), theChainCall(), allEvents(),
		ofSubject("ann"), ending(lastTime, most), ending(lastTime, 2),
	}
}

// R2, rule 7: what comes out is new memory, of what stands and of what was begun.
func TestNewMemory(t *testing.T) {
	for _, put := range []bool{false, true} {
		_, x := atHome(t)
		if put {
			for _, c := range putHome() {
				wantCall(t, x, c, nil, api.OK)
			}
		}
		for _, c := range askHome() {
			a, _ := c.do(x)
			b, _ := c.do(x)
			wantApart(t, c.what, a, b)
		}
	}
	_, x := began(t, 16)
	a, _ := x.Chain()
	b, _ := x.Chain()
	wantApart(t, "the first chain", a, b)
}

// putHome puts the records of home, in memory of their own; with other fields than they stand with.
func putHome() []call {
	var l []call
	for _, c := range home().clients {
		c.Life++
		l = append(l, putClient(c))
	}
	for _, f := range home().families {
		f.Grace++
		l = append(l, putFamily(f))
	}
	for _, k := range home().tokens {
		k.Hash = digest(99)
		l = append(l, putToken(k))
	}
	for _, c := range home().codes {
		c.Until++
		l = append(l, putCode(c))
	}
	for _, k := range home().keys {
		k.Until++
		l = append(l, putKey(k))
	}
	for _, e := range home().events {
		e.Time++
		l = append(l, putEvent(e))
	}
	c := home().chains[0]
	c.NextHash = digest(98)
	return append(l, putChain(c))
}

// R2: what comes out does not share memory with what was handed in.
func TestApartFromWhatWasHandedIn(t *testing.T) {
	_, x := atHome(t)
	client, family, token, code, key, event, chain := someClient("app"), someFamily(3, 4, 1, "ann"), spent(4, 3, 1, 6), freshCode(14), someKey(2), someEvent(4), someChain(2, 6)
	for _, c := range []call{putClient(client), putFamily(family), putToken(token), putCode(code), putKey(key), putEvent(event), putChain(chain)} {
		wantCall(t, x, c, nil, api.OK)
	}
	apart := func(given any, c call) {
		t.Helper()
		out, _ := c.do(x)
		for _, a := range memoryOf(reflect.ValueOf(out)) {
			for _, b := range memoryOf(reflect.ValueOf(given)) {
				if a[0] <= b[1] && b[0] <= a[1] {
					t.Fatalf("%s: memory is shared with what was handed in", c.what)
				}
			}
		}
		runtime.KeepAlive(given)
	}
	for range 2 {
		apart(client, getClient("app"))
		apart(client, allClients())
		apart(family, getFamily(3))
		apart(token, getToken(4))
		apart(token, tokensOf(3))
		apart(code, getCode(14))
		apart(code, allCodes())
		apart(key, allKeys())
		apart(event, allEvents())
		apart(chain, theChainCall())
		wantErrno(t, "Commit", x.Commit(), api.OK)
	}
}

// writeOver writes over all lists within something, and over their spare room.
func writeOver(v reflect.Value) {
	switch v.Kind() {
	case reflect.Slice:
		for n := range v.Len() {
			writeOver(v.Index(n))
		}
		whole := v.Slice3(0, v.Cap(), v.Cap())
		for n := range whole.Len() {
			whole.Index(n).SetZero()
		}
	case reflect.Struct:
		for n := range v.NumField() {
			if v.Field(n).Kind() == reflect.Slice {
				writeOver(v.Field(n))
			}
		}
	}
}

// R2: what came out is written over, and grown; the table tells the same as ever.
func TestAnswersWrittenOver(t *testing.T) {
	for _, put := range []bool{false, true} {
		b := bothAtHome(t)
		if put {
			for _, c := range putHome() {
				b.call(c)
			}
		}
		for _, c := range askHome() {
			out, _ := c.do(b.x)
			if v := reflect.ValueOf(out); v.Kind() == reflect.Slice {
				for range 3 {
					v = reflect.Append(v, reflect.Zero(v.Type().Elem()))
				}
				writeOver(v)
			}
			writeOver(reflect.ValueOf(out))
			b.call(c)
		}
		wantHas(t, "behind all that", b.x, b.p)
		b.calls(commit())
		b.reopen()
	}
}

// roomy is a list with spare room behind it, in which something stands, and that memory as a whole.
func roomy(l ...string) (list, whole []string) {
	whole = append(slices.Clone(l), "behind", "it", "", "stands")
	return whole[:len(l)], whole
}

// R2: the list of a scope that is handed in is not written into, nor its spare room; it may be written over behind the call, and be handed in again.
func TestScopeStays(t *testing.T) {
	for _, names := range [][]string{nil, {"read"}, {"a", "b", "c"}, {"b", "a"}} {
		b := bothAtHome(t)
		list, whole := roomy(names...)
		was := slices.Clone(whole)
		client, family, code := someClient("app"), someFamily(3, 4, 100, "ann"), freshCode(14)
		client.Scope, family.Scope, code.Scope = list, list, list
		for range 2 {
			a, c, d := b.x.PutClient(client), b.x.PutFamily(family), b.x.PutCode(code)
			client.Scope, family.Scope, code.Scope = slices.Clone(names), slices.Clone(names), slices.Clone(names)
			e, f, g := b.p.PutClient(client), b.p.PutFamily(family), b.p.PutCode(code)
			if a != e || c != f || d != g || !slices.Equal(whole, was) {
				t.Fatalf("%v: %d, %d, %d; want %d, %d, %d; %v", names, a, c, d, e, f, g, whole)
			}
			for n := range whole {
				whole[n] = "written over"
			}
			wantHas(t, "written over", b.x, b.p)
			copy(whole, was)
			client.Scope, family.Scope, code.Scope = list, list, list
		}
		b.calls(commit())
		b.reopen()
	}
}

// held are weak pointers to the texts and lists within something.
func held(v reflect.Value) []func() bool {
	var all []func() bool
	for n := range v.NumField() {
		switch x := v.Field(n).Interface().(type) {
		case string:
			if len(x) > 16 { // shorter ones may stand in one piece with others
				w := weak.Make(unsafe.StringData(x))
				all = append(all, func() bool { return w.Value() != nil })
			}
		case []string:
			if len(x) > 0 {
				w := weak.Make(unsafe.SliceData(x))
				all = append(all, func() bool { return w.Value() != nil })
			}
		}
	}
	return all
}

// clonedFields has all texts of a record in memory of their own.
func clonedFields[R any](r R) R {
	v := reflect.ValueOf(&r).Elem()
	for n := range v.NumField() {
		switch x := v.Field(n).Interface().(type) {
		case string:
			v.Field(n).SetString(strings.Clone(x))
		case []string:
			l := make([]string, 0, len(x)+2)
			for _, s := range x {
				l = append(l, strings.Clone(s))
			}
			v.Field(n).Set(reflect.ValueOf(l))
		}
	}
	return r
}

// handedIn hands records in, and tells what is kept of them.
func handedIn(x *table.Table) []func() bool {
	client, token, code, chain := clonedFields(someClient("app")), clonedFields(spent(4, 3, 1, 6)), clonedFields(freshCode(14)), clonedFields(someChain(2, 6))
	family, key := clonedFields(someFamily(3, 4, 1, "ann")), clonedFields(someKey(2))
	x.PutClient(client)
	x.PutToken(token)
	x.PutCode(code)
	x.PutChain(chain)
	x.PutFamily(family)
	x.PutKey(key)
	return slices.Concat(held(reflect.ValueOf(client)), held(reflect.ValueOf(token)), held(reflect.ValueOf(code)), held(reflect.ValueOf(chain)), held(reflect.ValueOf(family)), held(reflect.ValueOf(key)))
}

// R2: nothing of what is handed in is kept.
func TestNothingKept(t *testing.T) {
	_, x := atHome(t)
	all := handedIn(x)
	if len(all) != 11 {
		t.Fatalf("the test is wrong: %d", len(all))
	}
	for n, is := range all {
		for tries := 0; is(); tries++ {
			if runtime.GC(); tries == 10 {
				t.Fatalf("the %d-th text or list is kept", n)
			}
		}
	}
	wantCall(t, x, getClient("app"), someClient("app"), api.OK)
}

// R2: two tables on two disks, by turns, know nothing of one another.
func TestTwoTables(t *testing.T) {
	one, two := bothAtHome(t), bothOf(t, 64, lists{next: 7}, 5)
	for n, c := range slices.Concat(putHome(), []call{nextID(), see(3000), removeFamily(5), removeCode(13), commit(), nextID(), abort(), putClient(publicClient("new")), removeKey(1)}) {
		if n%3 == 0 {
			two.call(c)
			one.call(c)
		} else {
			one.call(c)
			two.call(abort())
		}
		wantHas(t, "one", one.x, one.p)
		wantHas(t, "two", two.x, two.p)
	}
	kill(t, one.d)
	wantCall(t, one.x, allKeys(), nil, api.ErrDead)
	wantHas(t, "two", two.x, two.p)
	two.calls(commit())
}

// blocksOfHome is what the same calls leave on a disk.
func blocksOfHome(t *testing.T) []string {
	t.Helper()
	d, x := began(t, 64)
	for _, c := range putHome() {
		c.do(x)
	}
	x.Commit()
	x.Remove(5)
	x.Commit()
	return d.Blocks()
}

// R2: tables of several disks at the same time.
func TestAtTheSameTime(t *testing.T) {
	want := blocksOfHome(t)
	var group sync.WaitGroup
	for range 8 {
		group.Go(func() {
			if !slices.Equal(blocksOfHome(t), want) {
				t.Error("another table has come of the same calls")
			}
		})
	}
	group.Wait()
}
