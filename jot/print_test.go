package jot_test

import (
	"math"
	"math/rand"
	"reflect"
	"strings"
	"testing"

	"latchkey/api"
	"latchkey/jot"
)

// wantPrint asks Print, and whether what was handed in stays.
func wantPrint(t *testing.T, v api.Jot, want string, errno api.Errno) {
	t.Helper()
	was := copied(v)
	got, e := jot.Print(v)
	if got != want || e != errno {
		t.Errorf("Print(%.200q) = %.200q, %d, want %.200q, %d", told(v), got, e, want, errno)
	}
	if !alike(v, was) {
		t.Errorf("Print changed %.200q", told(was))
	}
	if share(memory(v), textMemory(got)) {
		t.Errorf("Print(%.200q) answers memory that was handed in", told(v))
	}
}

func TestPrintOfEachKind(t *testing.T) {
	wantPrint(t, null, "null", api.OK)
	wantPrint(t, no, "false", api.OK)
	wantPrint(t, yes, "true", api.OK)
	wantPrint(t, num(0), "0", api.OK)
	wantPrint(t, num(-10), "-10", api.OK)
	wantPrint(t, text(""), `""`, api.OK)
	wantPrint(t, text("hi/\x7f"), "\"hi/\x7f\"", api.OK)
	wantPrint(t, list(), "[]", api.OK)
	wantPrint(t, list(null, num(1), list()), "[null,1,[]]", api.OK)
	wantPrint(t, object(nil), "{}", api.OK)
	wantPrint(t, object([]string{"", "a", "a\x00", "b"}, null, yes, no, list(null)), `{"":null,"a":true,"a\u0000":false,"b":[null]}`, api.OK)
	wantPrint(t, object([]string{"\"", "\\"}, num(1), object(nil)), `{"\"":1,"\\":{}}`, api.OK)
	for _, kind := range []int{-1, 7, 8, 256, math.MinInt, math.MaxInt} {
		wantPrint(t, api.Jot{Kind: kind}, "", api.ErrJotValue)
		wantPrint(t, list(null, api.Jot{Kind: kind}), "", api.ErrJotValue)
	}
	// A list without elements may be nil or not.
	empty := api.Jot{Names: []string{}, Items: []api.Jot{}}
	for kind, want := range []string{"null", "false", "true", "0", `""`, "[]", "{}"} {
		empty.Kind = kind
		wantPrint(t, empty, want, api.OK)
	}
}

func TestPrintOfNumbers(t *testing.T) {
	wantPrint(t, num(9007199254740991), "9007199254740991", api.OK)
	wantPrint(t, num(-9007199254740991), "-9007199254740991", api.OK)
	for _, n := range []int{9007199254740992, -9007199254740992, math.MaxInt, math.MinInt} {
		wantPrint(t, num(n), "", api.ErrJotValue)
		wantPrint(t, object([]string{"a"}, list(num(n))), "", api.ErrJotValue)
	}
	for n := 1; n < 9007199254740991/10; n *= 10 {
		wantPrint(t, num(n), "1"+strings.Repeat("0", len(printed(num(n)))-1), api.OK)
		wantPrint(t, num(1-n), printed(num(1-n)), api.OK)
	}
}

func TestPrintOfEachByte(t *testing.T) {
	given := map[int]string{0: `\u0000`, 7: `\u0007`, 8: `\b`, 9: `\t`, 10: `\n`, 11: `\u000b`, 12: `\f`, 13: `\r`, 14: `\u000e`, 26: `\u001a`, 31: `\u001f`, 34: `\"`, 92: `\\`, 127: "\x7f", 47: "/", 32: " "}
	for n := range 128 {
		s := string([]byte{byte(n)})
		want := form(s)
		if given[n] != "" && want != `"`+given[n]+`"` {
			t.Fatalf("the test's own form of %q: %s", s, want)
		}
		wantPrint(t, text(s), want, api.OK)
		wantPrint(t, text("x"+s+s+"y"), `"x`+strings.Repeat(want[1:len(want)-1], 2)+`y"`, api.OK)
		wantPrint(t, object([]string{s}, num(n)), "{"+want+":"+printed(num(n))+"}", api.OK)
	}
}

// wantUTF8 asks Print of a text, and of a name.
func wantUTF8(t *testing.T, s string) {
	t.Helper()
	want, errno := wantPrinted(text(s))
	wantPrint(t, text(s), want, errno)
	want, errno = wantPrinted(object([]string{s}, null))
	wantPrint(t, object([]string{s}, null), want, errno)
}

func TestPrintOfUTF8(t *testing.T) {
	for a := range 256 {
		wantUTF8(t, string([]byte{byte(a)}))
		for b := range 256 {
			wantUTF8(t, string([]byte{byte(a), byte(b)}))
		}
	}
	for _, s := range letterEdges() {
		wantUTF8(t, s)
		wantUTF8(t, "a"+s+"b")
	}
	wantPrint(t, text("\u00e9\u20ac\U0001f600"), "\"\u00e9\u20ac\U0001f600\"", api.OK)
	wantPrint(t, text("\ufffd\ufeff\uffff"), "\"\ufffd\ufeff\uffff\"", api.OK)
	wantPrint(t, text("\xed\xa0\xbd\xed\xb8\x80"), "", api.ErrJotValue)
	wantPrint(t, text(strings.Repeat("a", 5000)+"\xc3"), "", api.ErrJotValue)
}

// letterEdges are rows of bytes at the ends of each row of the table of UTF-8, just beyond them, and cut.
func letterEdges() []string {
	var out []string
	for _, r := range rows {
		texts := [][]byte{nil}
		for _, ends := range r {
			var longer [][]byte
			for _, s := range texts {
				for _, b := range []byte{ends[0] - 1, ends[0], ends[1], ends[1] + 1} {
					longer = append(longer, append(append([]byte(nil), s...), b))
				}
			}
			texts = longer
			for _, s := range texts {
				out = append(out, string(s))
			}
		}
	}
	return out
}

func TestPrintOfNames(t *testing.T) {
	for _, names := range [][]string{{"b", "a"}, {"a", "a"}, {"a", "c", "b"}, {"", ""}, {"a", "b", "b"}, {"ab", "a"}, {"\u00e9", "z"}, {"a", ""}} {
		items := []api.Jot{num(1), num(2), num(3)}[:len(names)]
		wantPrint(t, object(names, items...), "", api.ErrJotValue)
		wantPrint(t, list(object(names, items...)), "", api.ErrJotValue)
	}
	wantPrint(t, object([]string{"", "B", "a", "ab", "z", "\u00e9"}, null, null, null, null, null, null), "{\"\":null,\"B\":null,\"a\":null,\"ab\":null,\"z\":null,\"\u00e9\":null}", api.OK)
	wantPrint(t, object([]string{"a"}), "", api.ErrJotValue)
	wantPrint(t, object(nil, null), "", api.ErrJotValue)
	wantPrint(t, object([]string{"a", "b"}, null), "", api.ErrJotValue)
	wantPrint(t, object([]string{"a"}, null, null), "", api.ErrJotValue)
}

func TestPrintOfWhatAKindHasNot(t *testing.T) {
	extra := []func(*api.Jot){
		func(v *api.Jot) { v.Number = 1 },
		func(v *api.Jot) { v.Text = "x" },
		func(v *api.Jot) { v.Names = []string{""} },
		func(v *api.Jot) { v.Items = []api.Jot{null} },
	}
	has := map[int][]int{3: {0}, 4: {1}, 5: {3}}
	for kind := range 7 {
		for n, add := range extra {
			v := api.Jot{Kind: kind}
			add(&v)
			want, errno := "", api.ErrJotValue
			for _, m := range has[kind] {
				if n == m {
					want, errno = printed(v), api.OK
				}
			}
			wantPrint(t, v, want, errno)
			wantPrint(t, object([]string{"a"}, v), strings.TrimSuffix(`{"a":`+want+"}", `{"a":}`), errno)
		}
	}
}

func TestPrintOfDepths(t *testing.T) {
	wantPrint(t, nested(16, null), strings.Repeat("[", 16)+"null"+strings.Repeat("]", 16), api.OK)
	wantPrint(t, nested(15, list()), strings.Repeat("[", 16)+strings.Repeat("]", 16), api.OK)
	wantPrint(t, nested(15, object(nil)), strings.Repeat("[", 15)+"{}"+strings.Repeat("]", 15), api.OK)
	wantPrint(t, nested(17, null), "", api.ErrJotDeep)
	wantPrint(t, nested(16, list()), "", api.ErrJotDeep)
	wantPrint(t, nested(16, object(nil)), "", api.ErrJotDeep)
	// The deepest one counts, wherever it stands.
	wantPrint(t, list(list(), nested(16, null), list()), "", api.ErrJotDeep)
	wantPrint(t, object([]string{"a", "b"}, nested(16, null), null), "", api.ErrJotDeep)
	v := null
	for range 16 {
		v = object([]string{"a"}, v)
	}
	wantPrint(t, v, strings.Repeat(`{"a":`, 16)+"null"+strings.Repeat("}", 16), api.OK)
	wantPrint(t, object([]string{"a"}, v), "", api.ErrJotDeep)
	wantPrint(t, list(v), "", api.ErrJotDeep)
	deepest := nested(1<<16-1, null)
	if s, errno := jot.Print(deepest); s != "" || errno != api.ErrJotDeep {
		t.Errorf("Print of 2^16 parts = %.20q, %d", s, errno)
	}
	deepest = nested(1<<16-1, api.Jot{Kind: 7})
	if s, errno := jot.Print(deepest); s != "" || errno != api.ErrJotValue {
		t.Errorf("Print of 2^16 parts, the last one wrong = %.20q, %d", s, errno)
	}
}

func TestPrintOfLengths(t *testing.T) {
	many := func(n int, v api.Jot) []api.Jot {
		var l []api.Jot
		for range n {
			l = append(l, v)
		}
		return l
	}
	for n := 3990; n < 4010; n++ {
		for _, v := range []api.Jot{
			text(strings.Repeat("a", n)),
			list(text(strings.Repeat("a", n-5)), num(7)),
			list(num(7), text(strings.Repeat("a", n-5))),
			text(strings.Repeat("\x01", n/6) + strings.Repeat("\n", n%6)),
			text(strings.Repeat("\n", n/2) + strings.Repeat("x", n%2)),
			object([]string{strings.Repeat("n", n-10)}, null),
			object([]string{strings.Repeat("n", n-10)}, num(1234)),
			list(list(many(n/2-1, num(1))...), num(n)),
			list(many(n/5, yes)...),
		} {
			want, errno := wantPrinted(v)
			wantPrint(t, v, want, errno)
		}
	}
	wantPrint(t, text(strings.Repeat("a", 3998)), `"`+strings.Repeat("a", 3998)+`"`, api.OK)
	wantPrint(t, text(strings.Repeat("a", 3999)), "", api.ErrJotLong)
	wantPrint(t, text(strings.Repeat("a", 1<<20)), "", api.ErrJotLong)
	wantPrint(t, list(many(2000, num(1))...), "", api.ErrJotLong)
	wantPrint(t, list(append(many(1999, num(1)), list())...), "", api.ErrJotLong)
	wantPrint(t, list(many(1<<16, null)...), "", api.ErrJotLong)
}

func TestPrintTellsWhatIsNamedFirst(t *testing.T) {
	long := text(strings.Repeat("a", 4000))
	wrong := api.Jot{Kind: 7}
	wantPrint(t, list(nested(17, null), wrong), "", api.ErrJotValue)
	wantPrint(t, list(wrong, nested(17, null)), "", api.ErrJotValue)
	wantPrint(t, nested(20, wrong), "", api.ErrJotValue)
	wantPrint(t, list(long, wrong), "", api.ErrJotValue)
	wantPrint(t, list(wrong, long), "", api.ErrJotValue)
	wantPrint(t, list(long, nested(16, null)), "", api.ErrJotDeep)
	wantPrint(t, nested(17, long), "", api.ErrJotDeep)
	wantPrint(t, list(long, nested(17, null), wrong), "", api.ErrJotValue)
	wantPrint(t, list(long, nested(15, null)), "", api.ErrJotLong)
	wantPrint(t, nested(17, object([]string{"b", "a"}, long, long)), "", api.ErrJotValue)
}

func TestPrintOfAnyValues(t *testing.T) {
	r := rand.New(rand.NewSource(41))
	for range 20000 {
		v := someValue(r, r.Intn(5))
		want, errno := wantPrinted(v)
		if errno != api.OK {
			t.Fatalf("a value that may not be: %s", told(v))
		}
		wantPrint(t, v, want, api.OK)
		somewhere(r, &v, func(part *api.Jot) { spoil(r, part) })
		want, errno = wantPrinted(v)
		wantPrint(t, v, want, errno)
	}
}

func TestPrintLeavesSpareRoom(t *testing.T) {
	names := []string{"a", "b", "c", "d"}
	items := []api.Jot{list(), num(1), num(2), num(3)}
	inner := []api.Jot{yes, no, null}
	items[0].Items = inner[:1]
	wantPrint(t, object(names[:2], items[:2]...), `{"a":[true],"b":1}`, api.OK)
	if !reflect.DeepEqual(names, []string{"a", "b", "c", "d"}) || !alike(list(items...), list(list(yes), num(1), num(2), num(3))) || !alike(list(inner...), list(yes, no, null)) {
		t.Error("Print wrote into spare room")
	}
}
