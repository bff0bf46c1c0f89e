package query_test

import (
	"math/rand"
	"slices"
	"strings"
	"testing"

	"latchkey/api"
	"latchkey/query"
)

func field(name, value string) api.Field { return api.Field{Name: name, Value: value} }

// someFields is so many fields of any names and values, the empty ones among them.
func someFields(r *rand.Rand, n int) []api.Field {
	var l []api.Field
	for range n {
		l = append(l, field(someText(r, 5), someText(r, 5)))
	}
	return l
}

// parsed is Q4, over all pieces at once.
func parsed(s string) ([]api.Field, api.Errno, int) {
	if s == "" {
		return nil, api.OK, 0
	}
	var l []api.Field
	from := 0
	for n, piece := range strings.Split(s, "&") {
		if n == 32 {
			return nil, api.ErrQueryMany, from
		}
		if piece == "" {
			return nil, api.ErrQueryByte, from
		}
		head, tail, _ := strings.Cut(piece, "=")
		name, e, at := unescaped(head)
		if e != api.OK {
			return nil, e, from + at
		}
		value, e, at := unescaped(tail)
		if e != api.OK {
			return nil, e, from + len(head) + 1 + at
		}
		l = append(l, field(name, value))
		from += len(piece) + 1
	}
	return l, api.OK, 0
}

func wantPrint(t *testing.T, l []api.Field, want string) {
	t.Helper()
	if got := query.Print(l); got != want {
		t.Errorf("Print(%q) = %q, want %q", l, got, want)
	}
}

func wantFields(t *testing.T, s string, want ...api.Field) {
	t.Helper()
	if l, e, at := query.Parse(s); !slices.Equal(l, want) || e != api.OK || at != 0 {
		t.Errorf("Parse(%q) = %q, %d, %d, want %q", s, l, e, at, want)
	}
}

func wantFault(t *testing.T, s string, errno api.Errno, place int) {
	t.Helper()
	if l, e, at := query.Parse(s); len(l) != 0 || e != errno || at != place {
		t.Errorf("Parse(%q) = %q, %d, %d, want %d, %d", s, l, e, at, errno, place)
	}
}

func wantOne(t *testing.T, l []api.Field, name, want string, errno api.Errno) {
	t.Helper()
	if got, e := query.One(l, name); got != want || e != errno {
		t.Errorf("One(%q, %q) = %q, %d, want %q, %d", l, name, got, e, want, errno)
	}
}

func TestPrint(t *testing.T) {
	wantPrint(t, nil, "")
	wantPrint(t, []api.Field{}, "")
	wantPrint(t, []api.Field{{}}, "=")
	wantPrint(t, []api.Field{field("a", "")}, "a=")
	wantPrint(t, []api.Field{field("", "a")}, "=a")
	wantPrint(t, []api.Field{field("a", "1"), field("b", ""), field("", "x"), field("c", "d=")}, "a=1&b=&=x&c=d%3D")
	wantPrint(t, []api.Field{field("a", "3"), field("a", "2"), field("a", "3")}, "a=3&a=2&a=3")
	wantPrint(t, []api.Field{field("x y&", "%\xff"), field("\xe2\x82", "\xac")}, "x+y%26=%25%FF&%E2%82=%AC")
}

func TestPrintOfMoreThanMayBeRead(t *testing.T) {
	for _, n := range []int{31, 32, 33, 34, 100, 5000} {
		wantPrint(t, make([]api.Field, n), strings.Repeat("=&", n-1)+"=")
	}
}

func TestPrintOfAnyFields(t *testing.T) {
	r := rand.New(rand.NewSource(34))
	for n := range 400 {
		l := someFields(r, n%40)
		var parts []string
		for _, f := range l {
			parts = append(parts, escaped(f.Name)+"="+escaped(f.Value))
		}
		wantPrint(t, l, strings.Join(parts, "&"))
	}
}

func TestListsThatAreHandedInStay(t *testing.T) {
	whole := []api.Field{field("a", "1 2"), field("b", "%"), field("a", "\xff"), field("spare", "room")}
	before := slices.Clone(whole)
	query.Print(whole[:3])
	query.One(whole[:3], "a")
	query.One(whole[:3], "b")
	query.One(whole[:3], "spare")
	if !slices.Equal(whole, before) {
		t.Errorf("the list became %q", whole)
	}
}

func TestParse(t *testing.T) {
	wantFields(t, "")
	wantFields(t, "a", field("a", ""))
	wantFields(t, "a=", field("a", ""))
	wantFields(t, "=a", field("", "a"))
	wantFields(t, "=", field("", ""))
	wantFields(t, "=&=", field("", ""), field("", ""))
	wantFields(t, "a=1&b&=x&c=d%3D", field("a", "1"), field("b", ""), field("", "x"), field("c", "d="))
	wantFields(t, "a=1&a=1&a=2", field("a", "1"), field("a", "1"), field("a", "2"))
	wantFields(t, "x+y%26=%25%ff&%e2%82=%ac", field("x y&", "%\xff"), field("\xe2\x82", "\xac"))
	wantFields(t, "%26&%3d=~!", field("&", ""), field("=", "~!"))
}

func TestParseRefusesAnEmptyPiece(t *testing.T) {
	wantFault(t, "&", api.ErrQueryByte, 0)
	wantFault(t, "&&", api.ErrQueryByte, 0)
	wantFault(t, "&a=1", api.ErrQueryByte, 0)
	wantFault(t, "a=1&&b", api.ErrQueryByte, 4)
	wantFault(t, "a&", api.ErrQueryByte, 2)
	wantFault(t, "a=%41&", api.ErrQueryByte, 6)
	wantFault(t, "a&&%", api.ErrQueryByte, 2)
}

func TestParseTellsThePlace(t *testing.T) {
	wantFault(t, "%", api.ErrQueryEscape, 0)
	wantFault(t, "a%4=1", api.ErrQueryEscape, 1)
	wantFault(t, "a=%4", api.ErrQueryEscape, 2)
	wantFault(t, "a=%x1&b c", api.ErrQueryEscape, 2)
	wantFault(t, "a=1&b%=1", api.ErrQueryEscape, 5)
	wantFault(t, "a=1&bc=%41%4&1", api.ErrQueryEscape, 10)
	wantFault(t, " ", api.ErrQueryByte, 0)
	wantFault(t, "a b=%", api.ErrQueryByte, 1)
	wantFault(t, "a=b\x7f", api.ErrQueryByte, 3)
	wantFault(t, "a=1&%41%42\x00", api.ErrQueryByte, 10)
	wantFault(t, "a=1&b=+%2B\xc3\xa4", api.ErrQueryByte, 10)
	wantFault(t, "\xc3\xa4=1", api.ErrQueryByte, 0)
}

func TestParseRefusesASecondSignOfEquality(t *testing.T) {
	wantFault(t, "a=b=c", api.ErrQueryByte, 3)
	wantFault(t, "==", api.ErrQueryByte, 1)
	wantFault(t, "a==", api.ErrQueryByte, 2)
	wantFault(t, "a=1&b=%3D=", api.ErrQueryByte, 9)
}

func TestParseOfManyPieces(t *testing.T) {
	many := strings.Repeat("a&", 31)
	wantFields(t, many+"a", slices.Repeat([]api.Field{field("a", "")}, 32)...)
	wantFault(t, many+"a&a", api.ErrQueryMany, 64)
	wantFault(t, many+"a&", api.ErrQueryMany, 64)
	wantFault(t, many+"a&&", api.ErrQueryMany, 64)
	wantFault(t, many+"a&%", api.ErrQueryMany, 64)
	wantFault(t, many+"a&a& ", api.ErrQueryMany, 64)
	wantFault(t, many+"ab=c&a", api.ErrQueryMany, 67)
	wantFault(t, many+" &a", api.ErrQueryByte, 62)
	wantFault(t, many+"&a", api.ErrQueryByte, 62)
	wantFault(t, "%&"+many+"a&a", api.ErrQueryEscape, 0)
	wantFault(t, strings.Repeat("=&", 100000), api.ErrQueryMany, 64)
}

func TestParseOfAnyTexts(t *testing.T) {
	r := rand.New(rand.NewSource(35))
	taken := 0
	for range 30000 {
		s := someForm(r)
		l, e, at := query.Parse(s)
		want, errno, place := parsed(s)
		if !slices.Equal(l, want) || e != errno || at != place {
			t.Errorf("Parse(%q) = %q, %d, %d, want %q, %d, %d", s, l, e, at, want, errno, place)
		}
		if e != api.OK {
			continue
		}
		taken++
		again, e, at := query.Parse(query.Print(l))
		if !slices.Equal(again, l) || e != api.OK || at != 0 {
			t.Errorf("Parse of Print of what %q says = %q, %d, %d", s, again, e, at)
		}
	}
	if taken < 3000 {
		t.Errorf("only %d forms were taken", taken)
	}
}

// someForm is a text of pieces that are mostly right.
func someForm(r *rand.Rand) string {
	parts := []string{"a", "B", "7", "*", "~", "+", "%41", "%c3", "%Ff", "=", "&", "&", "%", "%4", "%g0", " ", "\x7f", "\xc3\xa4", "\xe2\x82"}
	most := len(parts)
	if r.Intn(2) == 0 {
		most = 12 // those that are right
	}
	out := ""
	for range r.Intn(12) {
		out += parts[r.Intn(most)]
	}
	return out
}

func TestParseOfPrint(t *testing.T) {
	r := rand.New(rand.NewSource(36))
	for n := range 2000 {
		l := someFields(r, n%33)
		wantFields(t, query.Print(l), l...)
	}
	wantFault(t, query.Print(make([]api.Field, 33)), api.ErrQueryMany, 64)
}

func TestTwoAnswersShareNoMemory(t *testing.T) {
	const form = "a=1&b=2&c=3"
	first, _, _ := query.Parse(form)
	second, _, _ := query.Parse(form)
	for n := range first[:cap(first)] {
		first[:cap(first)][n] = field("z", "z")
	}
	if !slices.Equal(second, []api.Field{field("a", "1"), field("b", "2"), field("c", "3")}) {
		t.Errorf("the second answer became %q", second)
	}
	wantFields(t, form, second...)
}

func TestOne(t *testing.T) {
	l := []api.Field{field("a", "1"), field("b", "2"), field("a", "3")}
	wantOne(t, l, "b", "2", api.OK)
	wantOne(t, l, "a", "", api.ErrQueryTwice)
	wantOne(t, l, "c", "", api.ErrQueryNone)
	wantOne(t, l, "", "", api.ErrQueryNone)
	wantOne(t, l, "A", "", api.ErrQueryNone)
	wantOne(t, nil, "a", "", api.ErrQueryNone)
	wantOne(t, nil, "", "", api.ErrQueryNone)
}

func TestOneOfEdges(t *testing.T) {
	wantOne(t, []api.Field{field("", "x"), field("a", "")}, "", "x", api.OK)
	wantOne(t, []api.Field{field("", "x"), field("a", "")}, "a", "", api.OK)
	wantOne(t, []api.Field{field("", ""), field("", "")}, "", "", api.ErrQueryTwice)
	// The same value twice is twice all the same, and so is the same three times.
	wantOne(t, []api.Field{field("a", "1"), field("a", "1")}, "a", "", api.ErrQueryTwice)
	wantOne(t, []api.Field{field("a", "1"), field("a", "1"), field("a", "1")}, "a", "", api.ErrQueryTwice)
	// Names are bytes: neither is one escaped nor is a beginning of one the name.
	wantOne(t, []api.Field{field("a%62", "1"), field("abc", "2"), field("\xff", "%41+")}, "ab", "", api.ErrQueryNone)
	wantOne(t, []api.Field{field("a%62", "1"), field("abc", "2"), field("\xff", "%41+")}, "\xff", "%41+", api.OK)
	// However many there are, and wherever it stands.
	many := make([]api.Field, 1000)
	many[0], many[999] = field("first", "1"), field("last", "2")
	wantOne(t, many, "first", "1", api.OK)
	wantOne(t, many, "last", "2", api.OK)
	wantOne(t, many, "", "", api.ErrQueryTwice)
}
