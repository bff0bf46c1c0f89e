package jot_test

import (
	"math/rand"
	"testing"

	"latchkey/api"
	"latchkey/jot"
)

// wantGet asks Get; what comes out shares no memory with what was handed in.
func wantGet(t *testing.T, v api.Jot, name string, want api.Jot, is bool) {
	t.Helper()
	was := copied(v)
	got, found := jot.Get(v, name)
	if !alike(got, want) || found != is {
		t.Errorf("Get(%q, %q) = %q, %v", told(v), name, told(got), found)
	}
	if share(memory(v), memory(got)) || share(textMemory(name), memory(got)) || overlap(memory(got)) {
		t.Errorf("Get(%q, %q) answers memory that is not new", told(v), name)
	}
	if !alike(v, was) {
		t.Errorf("Get changed %q", told(was))
	}
}

func TestGet(t *testing.T) {
	v := object([]string{"a", "b"}, num(0), list())
	wantGet(t, v, "a", num(0), true)
	wantGet(t, v, "b", list(), true)
	for _, name := range []string{"", "c", "A", "ab", "a\x00", "\xff"} {
		wantGet(t, v, name, null, false)
	}
	wantGet(t, object([]string{""}, yes), "", yes, true)
	wantGet(t, object(nil), "", null, false)
	// An Item that is null is there all the same.
	wantGet(t, object([]string{"a"}, null), "a", null, true)
	deep := object([]string{"x", "y"}, list(text("one"), object([]string{"z"}, text("two"))), null)
	wantGet(t, object([]string{"k"}, deep), "k", copied(deep), true)
}

func TestGetOfWhatIsNoObject(t *testing.T) {
	for kind := -1; kind < 9; kind++ {
		v := api.Jot{Kind: kind, Names: []string{"a"}, Items: []api.Jot{num(1)}}
		if kind == api.JotObject {
			wantGet(t, v, "a", num(1), true)
		} else {
			wantGet(t, v, "a", null, false)
		}
	}
	wantGet(t, null, "", null, false)
	wantGet(t, text("a"), "a", null, false)
}

func TestGetOfObjectsThatMayNotBe(t *testing.T) {
	wantGet(t, object([]string{"b", "a"}, num(1), num(2)), "a", num(2), true)
	wantGet(t, object([]string{"a", "a", "a"}, num(1), num(2), num(3)), "a", num(1), true)
	wantGet(t, object([]string{"x", "a", "a"}, num(1), num(2)), "a", num(2), true)
	wantGet(t, object([]string{"x", "a", "a"}, num(1)), "a", null, false)
	wantGet(t, object([]string{"a", "b"}, num(1)), "a", num(1), true)
	wantGet(t, object([]string{"a", "b"}, num(1)), "b", null, false)
	wantGet(t, object([]string{"a"}), "a", null, false)
	wantGet(t, object([]string{"a"}, num(1), num(2)), "a", num(1), true)
	wantGet(t, object([]string{"\xff"}, text("\xff\xfe")), "\xff", text("\xff\xfe"), true)
	odd := api.Jot{Kind: 9, Number: -1, Text: "t", Names: []string{"b", "a", "b"}, Items: []api.Jot{num(api.MaxNumber + 1), text("\xff")}}
	v := object([]string{"o"}, odd)
	v.Number, v.Text = 5, "more"
	wantGet(t, v, "o", copied(odd), true)
}

func TestGetIsNewMemory(t *testing.T) {
	names := []string{"x", "y", "z"}
	items := []api.Jot{num(1), list(num(2)), num(3)}
	v := object([]string{"k"}, object(names[:2], items[:2]...))
	got, _ := jot.Get(v, "k")
	got.Names[0] = "changed"
	got.Names = append(got.Names, "more")
	got.Items[1].Items[0] = text("changed")
	got.Items = append(got.Items, text("more"))
	if !alike(v, object([]string{"k"}, object([]string{"x", "y"}, num(1), list(num(2))))) || names[2] != "z" || items[2].Number != 3 {
		t.Errorf("what Get answered is what was handed in: %q", told(v))
	}
	again, _ := jot.Get(v, "k")
	other, _ := jot.Get(v, "k")
	if share(memory(again), memory(other)) || share(memory(v), memory(again)) {
		t.Error("two answers of Get share memory")
	}
	wantGet(t, object([]string{"k"}, nested(1<<12, text("x"))), "k", nested(1<<12, text("x")), true)
	if _, is := jot.Get(object([]string{"k"}, nested(1<<16-2, null)), "k"); !is {
		t.Error("2^16 parts")
	}
}

func TestSame(t *testing.T) {
	values := []api.Jot{
		null, no, yes, num(0), num(1), num(-1), num(api.MaxNumber), num(api.MaxNumber + 1), text(""), text("a"), text("b"), text("\xff"), text("a\x00"),
		list(), list(null), list(null, null), list(num(1)), list(num(1), num(2)), list(num(2), num(1)), list(list()), list(list(num(1))), list(list(num(2))),
		object(nil), object([]string{"a"}, null), object([]string{"b"}, null), object([]string{"a"}, num(1)), object([]string{"a"}), object(nil, null),
		object([]string{"a", "b"}, num(1), num(2)), object([]string{"b", "a"}, num(2), num(1)), object([]string{"a", "a"}, num(1), num(2)), object([]string{"a", "b"}, num(1)),
		object([]string{"ab", ""}, null, null), object([]string{"a", "b"}, null, null),
		{Kind: -1}, {Kind: 7}, {Number: 1}, {Text: "a"}, {Names: []string{""}}, {Names: []string{"a"}}, {Items: []api.Jot{null}}, {Kind: api.JotTrue, Number: 1},
		{Kind: api.JotNumber, Text: "a"}, {Kind: api.JotNumber, Items: []api.Jot{num(1)}}, {Kind: api.JotNumber, Items: []api.Jot{num(2)}}, {Kind: api.JotText, Names: []string{"a"}},
	}
	for n, a := range values {
		for m, b := range values {
			if got := jot.Same(a, copied(b)); got != (n == m) {
				t.Errorf("Same(%q, %q) = %v", told(a), told(b), got)
			}
		}
	}
	if !jot.Same(api.Jot{Names: []string{}, Items: []api.Jot{}}, null) {
		t.Error("lists without elements, nil or not")
	}
	if !jot.Same(api.Jot{}, api.Jot{Kind: api.JotNull}) {
		t.Error("the zero value is null")
	}
	if !jot.Same(nested(1<<16-1, null), nested(1<<16-1, null)) || jot.Same(nested(1<<16-1, null), nested(1<<16-1, yes)) {
		t.Error("2^16 parts")
	}
}

func TestSameOfAnyValues(t *testing.T) {
	r := rand.New(rand.NewSource(42))
	for range 20000 {
		a := someValue(r, r.Intn(4))
		b := copied(a)
		if !jot.Same(a, b) {
			t.Fatalf("Same(%q, itself)", told(a))
		}
		somewhere(r, &b, func(part *api.Jot) { spoil(r, part) })
		if got := jot.Same(a, b); got != alike(a, b) || got != jot.Same(b, a) {
			t.Fatalf("Same(%q, %q) = %v", told(a), told(b), got)
		}
		if got, is := jot.Get(b, "a"); is {
			item, _ := jot.Get(copied(b), "a")
			if !jot.Same(got, item) || share(memory(b), memory(got)) || overlap(memory(got)) {
				t.Fatalf("Get(%q, a) = %q", told(b), told(got))
			}
		}
	}
}
