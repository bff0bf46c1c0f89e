package jot_test

import (
	"bytes"
	"encoding/json"
	"fmt"
	"math/rand"
	"slices"
	"strconv"
	"strings"
	"testing"

	"latchkey/api"
)

// wantParse asks for a text that is taken.
func wantParse(t *testing.T, s string, want api.Jot) {
	t.Helper()
	got := parse(s)
	if got.errno != api.OK || got.at != 0 || !alike(got.v, want) {
		t.Errorf("Parse(%.300q) = %.300s, %d, %d, want %.300s", s, told(got.v), got.errno, got.at, told(want))
	}
	if share(memory(got.v), textMemory(s)) || overlap(memory(got.v)) {
		t.Errorf("Parse(%.300q) answers memory that is not new", s)
	}
}

// wantWrong asks for a text that is not taken.
func wantWrong(t *testing.T, s string, errno api.Errno, at int) {
	t.Helper()
	if got := parse(s); got.errno != errno || got.at != at || !alike(got.v, null) {
		t.Errorf("Parse(%.300q) = %.300s, %d, %d, want %d, %d", s, told(got.v), got.errno, got.at, errno, at)
	}
}

// wantForm asks for a text that goes wrong in its form.
func wantForm(t *testing.T, s string, at int) {
	t.Helper()
	wantWrong(t, s, api.ErrJotForm, at)
}

func TestParseOfEachKind(t *testing.T) {
	for s, want := range map[string]api.Jot{
		"null": null, "false": no, "true": yes, "0": num(0), "7": num(7), "-7": num(-7), "10": num(10), `""`: text(""), `"a"`: text("a"), "[]": list(), "{}": object(nil),
		"[1]": list(num(1)), "[1,null,[true]]": list(num(1), null, list(yes)), `{"a":{"":[]}}`: object([]string{"a"}, object([]string{""}, list())),
		`{"b":1,"":2,"a":3,"ab":4,"B":5}`: object([]string{"", "B", "a", "ab", "b"}, num(2), num(5), num(3), num(4), num(1)),
		`[{},"x",{}]`:                     list(object(nil), text("x"), object(nil)),
	} {
		wantParse(t, s, want)
		wantParse(t, " \t\r\n\n"+s+"\n\r\t ", want)
	}
}

func TestParseOfBlanks(t *testing.T) {
	marks := []string{"", "{", `"b"`, ":", "[", "1", ",", `"x y"`, ",", "[", "]", ",", "{", "}", "]", ",", `"a"`, ":", "-0", "}", ""}
	want := object([]string{"a", "b"}, num(0), list(num(1), text("x y"), list(), object(nil)))
	for _, blanks := range []string{"", " ", "\t", "\n", "\r", " \r\n\t "} {
		wantParse(t, strings.Join(marks, blanks), want)
		for n := range marks[1:] {
			wantParse(t, strings.Join(marks[:n+1], "")+blanks+strings.Join(marks[n+1:], ""), want)
		}
	}
	// No other byte is a blank, wherever one may stand.
	for n := range marks[1:] {
		head, tail := strings.Join(marks[:n+1], ""), strings.Join(marks[n+1:], "")
		for _, b := range []string{"\x00", "\x0b", "\x0c", "\x1f", "\x7f", "\xa0", "\u00a0", "/"} {
			wantForm(t, head+b+tail, len(head))
		}
	}
	// Within a mark there is none.
	for _, c := range []struct {
		s  string
		at int
	}{{"nu ll", 2}, {"- 1", 1}, {"1 1", 2}, {"tru e", 3}, {"0 0", 2}, {`"\ n"`, 2}, {`"\u 0041"`, 3}, {`"\ud83d \ude00"`, 7}} {
		wantForm(t, c.s, c.at)
	}
	wantForm(t, strings.Repeat(" ", 4000), 4000)
	wantParse(t, strings.Repeat("\n", 2000)+"7"+strings.Repeat("\r", 1999), num(7))
}

func TestParseOfWords(t *testing.T) {
	for _, word := range []string{"null", "false", "true"} {
		for n := range word {
			wantForm(t, word[:n], n)
			wantForm(t, `{"a":`+word[:n]+"}", 5+n)
			for c := range 256 {
				if s := word[:n] + string([]byte{byte(c)}) + word[n+1:]; s != word {
					errno, at := run(s)
					wantWrong(t, s, errno, at)
				}
			}
		}
		wantForm(t, word+word, len(word))
		wantForm(t, strings.ToUpper(word), 0)
	}
}

func TestParseOfNumbers(t *testing.T) {
	for s, want := range map[string]int{"-0": 0, "0": 0, "-1": -1, "9": 9, "9007199254740991": api.MaxNumber, "-9007199254740991": -api.MaxNumber, "9007199254740990": api.MaxNumber - 1, "1000000000000000": 1e15} {
		wantParse(t, s, num(want))
		wantParse(t, "["+s+"]", list(num(want)))
	}
	for _, c := range []struct {
		s     string
		errno api.Errno
		at    int
	}{
		{"01", api.ErrJotForm, 1}, {"00", api.ErrJotForm, 1}, {"-01", api.ErrJotForm, 2}, {"-", api.ErrJotForm, 1}, {"--1", api.ErrJotForm, 1}, {"-a", api.ErrJotForm, 1}, {"+1", api.ErrJotForm, 0},
		{"1.5", api.ErrJotForm, 1}, {".5", api.ErrJotForm, 0}, {"1e5", api.ErrJotForm, 1}, {"1E5", api.ErrJotForm, 1}, {"0.0", api.ErrJotForm, 1}, {"-0.0", api.ErrJotForm, 2}, {"0x1", api.ErrJotForm, 1}, {"1-", api.ErrJotForm, 1},
		{"[01]", api.ErrJotForm, 2}, {"[-]", api.ErrJotForm, 2}, {"[1.5]", api.ErrJotForm, 2}, {"1/", api.ErrJotForm, 1}, {"1:", api.ErrJotForm, 1}, {"/", api.ErrJotForm, 0}, {":", api.ErrJotForm, 0},
		{"9007199254740992", api.ErrJotValue, 15}, {"-9007199254740992", api.ErrJotValue, 16}, {"9007199254740999", api.ErrJotValue, 15}, {"9007199254741000", api.ErrJotValue, 15}, {"9999999999999999", api.ErrJotValue, 15},
		{"10000000000000000", api.ErrJotValue, 16}, {"90071992547409910", api.ErrJotValue, 16}, {"-90071992547409910", api.ErrJotValue, 17}, {"[1,9007199254740992x", api.ErrJotValue, 18},
		{strings.Repeat("9", 100), api.ErrJotValue, 15}, {"1" + strings.Repeat("0", 3000), api.ErrJotValue, 16}, {"9007199254740991x", api.ErrJotForm, 16}, {"0" + strings.Repeat("9", 100), api.ErrJotForm, 1},
		{"18446744073709551617", api.ErrJotValue, 16}, {"-9223372036854775808", api.ErrJotValue, 16},
	} {
		wantWrong(t, c.s, c.errno, c.at)
	}
	r := rand.New(rand.NewSource(43))
	for range 5000 {
		s := strconv.Itoa(someNumber(r))
		n, _ := strconv.Atoi(s)
		wantParse(t, s, num(n))
	}
}

func TestParseOfTexts(t *testing.T) {
	wantParse(t, `"\"\\\/\b\f\n\r\t"`, text("\"\\/\b\f\n\r\t"))
	wantParse(t, "\"/\x7f '\u00e9\u20ac\U0001f600\ufffd\"", text("/\x7f '\u00e9\u20ac\U0001f600\ufffd"))
	for c := range 256 {
		b := string([]byte{byte(c)})
		switch {
		case b == `"`:
			wantForm(t, `"`+b+`"`, 2)
			wantParse(t, `"\"a"`, text(`"a`))
		case b == `\`:
			wantForm(t, `"`+b+`"`, 3)
		case c < 32:
			wantForm(t, `"a`+b+`"`, 2)
			wantForm(t, `{"a`+b+`":1}`, 3)
		case c < 128:
			wantParse(t, `"`+b+`a"`, text(b+"a"))
		}
		if strings.Contains(`"\/bfnrtu`, b) {
			continue
		}
		wantForm(t, `"\`+b+`"`, 2)
	}
	wantForm(t, `"`, 1)
	wantForm(t, `"a`, 2)
	wantForm(t, `"\`, 2)
	wantForm(t, `"a"b`, 3)
	wantForm(t, `"a""`, 3)
	wantForm(t, `'a'`, 0)
}

func TestParseOfNumberedLetters(t *testing.T) {
	for n := range 0x10000 {
		small, capital := fmt.Sprintf(`"\u%04x"`, n), fmt.Sprintf(`"\u%04X"`, n)
		switch {
		case n >= 0xd800 && n <= 0xdbff:
			wantForm(t, small, 7)
			wantForm(t, capital, 7)
		case n >= 0xdc00 && n <= 0xdfff:
			wantForm(t, small, 4)
			wantForm(t, capital, 4)
		default:
			wantParse(t, small, text(string(rune(n))))
			wantParse(t, capital, text(string(rune(n))))
		}
	}
	for n := rune(0x10000); n <= 0x10ffff; n += 0x3fd {
		for _, digits := range []string{`"x\u%04x\u%04xy"`, `"x\u%04X\u%04Xy"`} {
			wantParse(t, fmt.Sprintf(digits, 0xd800+(n-0x10000)/1024, 0xdc00+(n-0x10000)%1024), text("x"+string(n)+"y"))
		}
	}
	for _, c := range []struct {
		s  string
		at int
	}{
		{`"\u`, 3}, {`"\u"`, 3}, {`"\u0`, 4}, {`"\u004`, 6}, {`"\u004"`, 6}, {`"\ug000"`, 3}, {`"\u0G00"`, 4}, {`"\u00:0"`, 5}, {"\"\\u000`\"", 6}, {`"\u00/0"`, 5}, {`"\u000@"`, 6}, {`"\U0041"`, 2},
		{`"\ud`, 4}, {`"\udg"`, 4}, {`"\ud8`, 5}, {`"\ud800`, 7}, {`"\ud800"`, 7}, {`"\ud800x"`, 7}, {`"\ud800\`, 8}, {`"\ud800\n"`, 8}, {`"\ud800\\"`, 8}, {`"\ud800\u`, 9}, {`"\ud800\u0041"`, 9}, {`"\ud800\ue000"`, 9},
		{`"\ud800\ud`, 10}, {`"\ud800\ud800"`, 10}, {`"\ud800\udb00"`, 10}, {`"\ud800\ud7ff"`, 10}, {`"\ud800\udc`, 11}, {`"\ud800\udc0`, 12}, {`"\ud800\udc0g"`, 12}, {`"\ud800\udcg0"`, 11},
		{`"\udc00\ud800"`, 4}, {`"\uDFFF"`, 4}, {`"\uDc00"`, 4}, {`"\udbff\uDBff"`, 10}, {`"\ud83d\ude00\ude00"`, 16}, {"\"\\ud800\u00e9\"", 7}, {"\"\\u\u0660\"", 3},
	} {
		wantForm(t, c.s, c.at)
		wantForm(t, `{`+c.s, 1+c.at)
	}
}

func TestParseOfUTF8(t *testing.T) {
	ask := func(s string) {
		t.Helper()
		for _, c := range []struct{ head, tail string }{{`"`, `"`}, {`"\u00e9x`, ``}, {`"`, `a"`}, {`{"`, `":1}`}} {
			whole := c.head + s + c.tail
			errno, at := run(whole)
			if errno != api.OK {
				wantWrong(t, whole, errno, at)
				continue
			}
			if got := parse(whole); got.errno != api.OK {
				t.Errorf("Parse(%q) = %d, %d", whole, got.errno, got.at)
			}
		}
		if at, is := goodUTF8(s); !is {
			wantForm(t, `"`+s, 1+at)
		}
	}
	for a := range 128 {
		for b := range 256 {
			s := string([]byte{byte(a + 128), byte(b)})
			if b >= 128 {
				ask(s)
			}
		}
		ask(string([]byte{byte(a + 128)}))
	}
	for _, s := range letterEdges() {
		if s[0] >= 128 {
			ask(s)
		}
	}
	for _, c := range []struct {
		s  string
		at int
	}{
		{"\"\xc3", 2}, {"\"\xc3\"", 2}, {"\"\xe2\x82", 3}, {"\"\xe2\x82\"", 3}, {"\"\xf0\x9f\x98", 4}, {"\"\xf0\x9f\x98\"", 4}, {"\"\xf0\x9fa", 3}, {"\"\xc0\x80\"", 1}, {"\"\xc1\xbf\"", 1}, {"\"\x80\"", 1},
		{"\"\xe0\x9f\xbf\"", 2}, {"\"\xed\xa0\x80\"", 2}, {"\"\xf0\x8f\xbf\xbf\"", 2}, {"\"\xf4\x90\x80\x80\"", 2}, {"\"\xf5\x80\x80\x80\"", 1}, {"\"\xff\"", 1}, {"\"\xef\xbf\xbd\xff\"", 4}, {"\xef\xbb\xbf1", 0}, {"\"\xc3\\", 2}, {"\"\xc3\xc3", 2},
	} {
		wantForm(t, c.s, c.at)
	}
}

func TestParseOfListsAndObjects(t *testing.T) {
	for _, c := range []struct {
		s  string
		at int
	}{
		{"", 0}, {" ", 1}, {"[", 1}, {"[1", 2}, {"[1,", 3}, {"[1,]", 3}, {"[,1]", 1}, {"[1,,2]", 3}, {"[1 2]", 3}, {"[1}", 2}, {"[}", 1}, {"]", 0}, {"[]]", 2}, {"[][]", 2}, {"[],", 2}, {"[:]", 1}, {`["a":1]`, 4},
		{"{", 1}, {"{]", 1}, {"}", 0}, {"{}}", 2}, {"{1:2}", 1}, {"{a:1}", 1}, {`{"a"`, 4}, {`{"a"}`, 4}, {`{"a",`, 4}, {`{"a":`, 5}, {`{"a":}`, 5}, {`{"a":1`, 6}, {`{"a":1]`, 6}, {`{"a":1,`, 7}, {`{"a":1,}`, 7},
		{`{"a":1,,"b":2}`, 7}, {`{"a":1 "b":2}`, 7}, {`{"a"::1}`, 5}, {`{"a":1:2}`, 6}, {`{,"a":1}`, 1}, {`{[]:1}`, 1}, {`{"a":1,[`, 7}, {`{null:1}`, 1}, {"1 2", 2}, {"null null", 5}, {`"a" "b"`, 4}, {"1,", 1}, {"{}{}", 2}, {"x", 0}, {"\x00", 0}, {"1\x00", 1}, {"[1\x00]", 2}, {`{"a"` + "\x00" + `:1}`, 4},
	} {
		wantForm(t, c.s, c.at)
	}
}

func TestParseOfNames(t *testing.T) {
	for _, c := range []struct {
		s  string
		at int
	}{
		{`{"a":1,"a":2}`, 9}, {`{"a":1,"a"`, 9}, {`{"":1,"":2}`, 7}, {`{"a":1,"b":2,"a":3}`, 15}, {`{"b":1,"a":2,"b":3}`, 15}, {`{"a":1,"\u0061":2}`, 14}, {`{"\u0061":1,"a":2}`, 14}, {`{"/":1,"\/":2}`, 10},
		{"{\"\u00e9\":1,\"\\u00E9\":2}", 15}, {"{\"\U0001f600\":1,\"\\ud83d\\ude00\":2}", 23}, {`{"a":{"a":1},"a":2}`, 15}, {`[{"a":1},{"a":1,"a":2}]`, 18}, {`{"a":1 , "a" : 2}`, 11}, {`{"a":1,"a"x`, 9},
	} {
		wantWrong(t, c.s, api.ErrJotName, c.at)
	}
	wantForm(t, `{"a":1,"a`, 9)
	wantForm(t, `{"a":1,"a\`, 10)
	wantParse(t, `{"a":1,"aa":2}`, object([]string{"a", "aa"}, num(1), num(2)))
	wantParse(t, `{"a":{"a":1},"b":{"a":1}}`, object([]string{"a", "b"}, object([]string{"a"}, num(1)), object([]string{"a"}, num(1))))
	wantParse(t, `{"a":1,"A":2}`, object([]string{"A", "a"}, num(2), num(1)))
	wantParse(t, "{\"\U0001f600\":1,\"\uffff\":2,\"\u00e9\":3,\"z\":4}", object([]string{"z", "\u00e9", "\uffff", "\U0001f600"}, num(4), num(3), num(2), num(1)))
	var names, members []string
	var items []api.Jot
	for n := range 400 {
		names = append(names, fmt.Sprintf("%03d", n))
		items = append(items, num(n))
		members = append(members, fmt.Sprintf(`"%03d":%d`, n, n))
	}
	rand.New(rand.NewSource(44)).Shuffle(400, func(a, b int) { members[a], members[b] = members[b], members[a] })
	wantParse(t, "{"+strings.Join(members, ",")+"}", object(names, items...))
	for _, n := range []int{0, 1, 200, 398} {
		s := "{" + strings.Join(members[:399], ",") + "," + members[n]
		wantWrong(t, s, api.ErrJotName, strings.LastIndex(s, `"`))
	}
}

func TestParseOfDepths(t *testing.T) {
	open := strings.Repeat("[", 16)
	wantParse(t, open+strings.Repeat("]", 16), nested(15, list()))
	wantParse(t, open+"1"+strings.Repeat("]", 16), nested(16, num(1)))
	wantForm(t, open, 16)
	for _, bracket := range []string{"[", "{"} {
		wantWrong(t, open+bracket, api.ErrJotDeep, 16)
		wantWrong(t, open+" \n"+bracket, api.ErrJotDeep, 18)
		wantWrong(t, open+"1,"+bracket, api.ErrJotDeep, 18)
		wantWrong(t, strings.Repeat(bracket, 1)+open+open, map[string]api.Errno{"[": api.ErrJotDeep, "{": api.ErrJotForm}[bracket], map[string]int{"[": 16, "{": 1}[bracket])
		wantWrong(t, strings.Repeat(`{"a":`, 16)+bracket, api.ErrJotDeep, 80)
		// Where no value may begin, it is the form that is wrong.
		wantForm(t, open+"1"+bracket, 17)
		wantForm(t, open+"]"+bracket, 17)
		wantForm(t, strings.Repeat(`{"a":`, 15)+"{"+bracket, 76)
		wantForm(t, strings.Repeat(`{"a":`, 16)+"1,"+bracket, 82)
		wantForm(t, strings.Repeat(`{"a":`, 15)+`{"a"`+bracket, 79)
	}
	wantForm(t, open+"}", 16)
	wantParse(t, strings.Repeat(`{"a":[`, 8)+strings.Repeat("]}", 8), func() api.Jot {
		v := object([]string{"a"}, list())
		for range 7 {
			v = object([]string{"a"}, list(v))
		}
		return v
	}())
	// What is closed counts no more.
	side := strings.Repeat("[", 15) + strings.Repeat("]", 15)
	wantParse(t, "["+strings.Repeat(side+",", 20)+side+"]", func() api.Jot {
		var l []api.Jot
		for range 21 {
			l = append(l, nested(14, list()))
		}
		return list(l...)
	}())
	wantWrong(t, "["+side+","+open, api.ErrJotDeep, 1+30+1+15)
}

func TestParseOfLengths(t *testing.T) {
	for n := 3990; n <= 4000; n++ {
		s := `"` + strings.Repeat("a", n-2) + `"`
		wantParse(t, s, text(s[1:n-1]))
		wantForm(t, s[:n-1], n-1)
		wantForm(t, strings.Repeat("1 ", n/2), 2)
	}
	for _, s := range []string{
		strings.Repeat(" ", 4001), `"` + strings.Repeat("a", 3999) + `"`, strings.Repeat("[", 4001), "x" + strings.Repeat(" ", 4000), `{"a":1,"a":2}` + strings.Repeat(" ", 4000),
		strings.Repeat("9", 4001), "1" + strings.Repeat(" ", 4000), strings.Repeat("\xff", 1<<20),
	} {
		wantWrong(t, s, api.ErrJotLong, 4000)
	}
	ones := list()
	for range 1999 {
		ones.Items = append(ones.Items, num(1))
	}
	wantParse(t, "["+strings.Repeat("1,", 1998)+"1]", ones)
	wantWrong(t, "["+strings.Repeat("1,", 1998)+"1]  ", api.ErrJotLong, 4000)
}

func TestParseSharesNoMemory(t *testing.T) {
	s := `{"a":["x",{"b":"y","c":[1,2,3]}],"b":"\u0041z","":{}}`
	a, b := parse(s).v, parse(s).v
	if share(memory(a), memory(b)) || overlap(memory(a)) || share(memory(a), textMemory(s)) {
		t.Error("answers share memory")
	}
	a.Items[1].Items[1].Names[0] = "changed"
	a.Items[1].Items = append(a.Items[1].Items, null)
	if again := parse(s).v; !alike(again, b) {
		t.Error("what was answered is kept")
	}
}

// asJSON reads a text by the library, whose form is wider.
func asJSON(t *testing.T, s string) api.Jot {
	t.Helper()
	d := json.NewDecoder(bytes.NewReader([]byte(s)))
	d.UseNumber()
	var v any
	if err := d.Decode(&v); err != nil {
		t.Fatalf("the library refuses %q: %v", s, err)
	}
	return fromLibrary(v)
}

func fromLibrary(v any) api.Jot {
	switch v := v.(type) {
	case bool:
		if v {
			return yes
		}
		return no
	case json.Number:
		n, _ := strconv.Atoi(string(v))
		return num(n)
	case string:
		return text(v)
	case []any:
		var items []api.Jot
		for _, item := range v {
			items = append(items, fromLibrary(item))
		}
		return list(items...)
	case map[string]any:
		var names []string
		for name := range v {
			names = append(names, name)
		}
		slices.Sort(names)
		var items []api.Jot
		for _, name := range names {
			items = append(items, fromLibrary(v[name]))
		}
		return object(names, items...)
	}
	return null
}

// spoiled is a text with one byte, or some, changed.
func spoiled(r *rand.Rand, s string) string {
	const special = "\"\"\\\\{}[]::,,-0019udDcC8aFntrfe/ \t\n\x00\x1f\x7f\x80\xbf\xc3\xa9\xe0\xed\xf0\x9f\xf4\xff"
	b := []byte(s)
	for range 1 + r.Intn(2) {
		at := r.Intn(len(b) + 1)
		c := special[r.Intn(len(special))]
		switch {
		case r.Intn(3) == 0 || at == len(b):
			b = slices.Insert(b, at, c)
		case r.Intn(2) == 0:
			b = slices.Delete(b, at, at+1)
		case r.Intn(4) == 0:
			b = b[:at]
		default:
			b[at] = c
		}
	}
	return string(b)
}

// wantPlace asks what the place is by its own words: all ahead of it goes on to a text that is taken, and with one byte more nothing does.
func wantPlace(t *testing.T, r *rand.Rand, s string, errno api.Errno, at int) {
	t.Helper()
	whole, is := finished(s[:at])
	if !is {
		t.Fatalf("no text that begins with %q was found", s[:at])
	}
	if got := parse(whole); len(whole) <= 4000 && got.errno != api.OK {
		t.Fatalf("Parse(%q) = %d, %d", whole, got.errno, got.at)
	}
	if at == len(s) {
		return
	}
	wantWrong(t, s[:at+1], errno, at)
	if more, is := finished(s[:at+1]); is {
		t.Fatalf("%q is taken", more)
	}
	for range 3 {
		wantWrong(t, s[:at+1]+spoiled(r, whole), errno, at)
	}
}

func TestParseOfAnyTexts(t *testing.T) {
	r := rand.New(rand.NewSource(45))
	taken, wrong := 0, map[api.Errno]int{}
	for range 60000 {
		s := loose(r, someValue(r, r.Intn(4)))
		if r.Intn(5) > 0 {
			s = spoiled(r, s)
		}
		errno, at := run(s)
		if errno == api.OK {
			taken++
			wantParse(t, s, asJSON(t, s))
			continue
		}
		wrong[errno]++
		wantWrong(t, s, errno, at)
		wantPlace(t, r, s, errno, at)
		if t.Failed() {
			return
		}
	}
	if taken < 10000 || wrong[api.ErrJotForm] < 10000 {
		t.Errorf("the texts are too much alike: %d taken, %v", taken, wrong)
	}
}

func TestParseOfMarksInAnyOrder(t *testing.T) {
	marks := []string{"{", "{", "}", "[", "[", "]", ":", ":", ",", ",", `"a"`, `"b"`, `"\u0061"`, "1", "-", "0", "9007199254740991", "9007199254740992", "null", "true", "false", " ", `"`, `\`, "\n", `{"a":`, `{"a":`, `,"a":`, "1,", `"\ud83d\ude00"`, `"\ud83d`, "\u00e9"}
	r := rand.New(rand.NewSource(46))
	times := map[api.Errno]int{}
	for range 60000 {
		s := ""
		if r.Intn(4) == 0 {
			s = strings.Repeat([]string{"[", `{"a":`, `[{"b":`}[r.Intn(3)], r.Intn(18))
		}
		for range r.Intn(12) {
			s += marks[r.Intn(len(marks))]
		}
		errno, at := run(s)
		times[errno]++
		if errno == api.OK {
			wantParse(t, s, asJSON(t, s))
			continue
		}
		wantWrong(t, s, errno, at)
		wantPlace(t, r, s, errno, at)
		if t.Failed() {
			return
		}
	}
	for _, errno := range []api.Errno{api.OK, api.ErrJotForm, api.ErrJotDeep, api.ErrJotName, api.ErrJotValue} {
		if times[errno] < 50 {
			t.Errorf("the texts are too much alike: %v", times)
		}
	}
}
