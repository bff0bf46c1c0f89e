package wire_test

import (
	"math/rand"
	"slices"
	"strings"
	"testing"

	"latchkey/api"
	"latchkey/wire"
)

func wantAll(t *testing.T, l []api.Field, name string, want ...string) {
	t.Helper()
	if got := wire.All(l, name); !slices.Equal(got, want) {
		t.Errorf("All(%q, %q) = %q, want %q", l, name, got, want)
	}
}

func TestAll(t *testing.T) {
	l := []api.Field{{Name: "A", Value: "1"}, {Name: "b", Value: "2"}, {Name: "a", Value: "3"}}
	wantAll(t, l, "a", "1", "3")
	wantAll(t, l, "A", "1", "3")
	wantAll(t, l, "B", "2")
	wantAll(t, l, "c")
	wantAll(t, l, "")
	wantAll(t, l, "ab")
	wantAll(t, nil, "a")
	wantAll(t, nil, "")
	l = []api.Field{{Name: "Content-Length", Value: "1"}, {Name: "content-length", Value: ""}, {Name: "", Value: "x"}, {Name: "CONTENT-lENGTH", Value: "1"}}
	wantAll(t, l, "cONTENT-lENGTH", "1", "", "1")
	wantAll(t, l, "", "x")
}

func TestAllOfAnyTexts(t *testing.T) {
	// Only the letters A to Z count as others: not those of other tongues, nor signs that stand as far apart.
	l := []api.Field{
		{Name: "k", Value: "k"}, {Name: "\u212a", Value: "the sign of kelvin"}, {Name: "s", Value: "s"}, {Name: "\u017f", Value: "long s"},
		{Name: "\u00c4", Value: "upper"}, {Name: "\u00e4", Value: "lower"}, {Name: "\xc4", Value: "one byte"}, {Name: "\xe4", Value: "another"},
		{Name: "@", Value: "at"}, {Name: "\x60", Value: "grave"}, {Name: "[", Value: "open"}, {Name: "{", Value: "brace"}, {Name: "\x00", Value: "nought"}, {Name: " ", Value: "\xff\x00"},
		{Name: "\xff", Value: "broken"}, {Name: "\ufffd", Value: "none"}, {Name: "-", Value: "dash"}, {Name: "\r", Value: "return"},
	}
	for n, f := range l {
		wantAll(t, l, f.Name, l[n].Value)
	}
	wantAll(t, l, "K", "k")
	wantAll(t, l, "S", "s")
}

func TestAllOfEachTwoBytes(t *testing.T) {
	for a := range 256 {
		for b := range 256 {
			l := []api.Field{{Name: "x" + string([]byte{byte(a)}), Value: "v"}}
			same := a == b || a >= 'A' && a <= 'Z' && b == a+32 || b >= 'A' && b <= 'Z' && a == b+32
			if got := wire.All(l, "X"+string([]byte{byte(b)})); (len(got) == 1) != same {
				t.Errorf("bytes %d and %d: %q", a, b, got)
			}
		}
	}
}

func TestAllOfSome(t *testing.T) {
	r := rand.New(rand.NewSource(56))
	for range 3000 {
		l := make([]api.Field, r.Intn(8))
		for n := range l {
			l[n] = api.Field{Name: from(r, "aAbB-\xff", r.Intn(4)), Value: from(r, between(0, 255), r.Intn(4))}
		}
		name := from(r, "aAbB-\xff", r.Intn(4))
		ascii := strings.NewReplacer("A", "a", "B", "b")
		var want []string
		for _, f := range l {
			if ascii.Replace(f.Name) == ascii.Replace(name) {
				want = append(want, f.Value)
			}
		}
		wantAll(t, l, name, want...)
	}
}

func TestAllInNewMemory(t *testing.T) {
	l := []api.Field{{Name: "a", Value: "some value"}, {Name: "A", Value: "other value"}}
	first, second := wire.All(l, "a"), wire.All(l, "a")
	of := func(l []string) []memory { return append(listMemory(l), textMemory(l...)...) }
	if share(of(first), of(second)) || share(of(first), headersMemory(l)) || overlap(of(first)) {
		t.Error("an answer shares memory")
	}
	l[0].Value, first[1] = "changed", "changed"
	if second[0] != "some value" || second[1] != "other value" || first[0] != "some value" {
		t.Errorf("%q, %q", first, second)
	}
}
