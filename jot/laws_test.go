package jot_test

import (
	"math/rand"
	"strings"
	"testing"

	"latchkey/api"
	"latchkey/jot"
)

// wantBothWays asks, for a value whose parts may be, that what is printed is taken as it.
func wantBothWays(t *testing.T, v api.Jot) string {
	t.Helper()
	s, errno := jot.Print(v)
	if errno != api.OK {
		t.Fatalf("Print(%s) = %d", told(v), errno)
	}
	back, errno, at := jot.Parse(s)
	if errno != api.OK || at != 0 || !jot.Same(back, v) || !alike(back, v) {
		t.Fatalf("Parse(%q) = %s, %d, %d, want %s", s, told(back), errno, at, told(v))
	}
	return s
}

func TestWhatIsPrintedIsTaken(t *testing.T) {
	r := rand.New(rand.NewSource(47))
	for range 20000 {
		wantBothWays(t, someValue(r, r.Intn(5)))
	}
	wantBothWays(t, nested(16, text("x")))
	wantBothWays(t, text(strings.Repeat("\U0001f600", 999)))
	wantBothWays(t, text(strings.Repeat("\x01", 666)))
	wantBothWays(t, num(api.MaxNumber))
	wantBothWays(t, num(-api.MaxNumber))
}

func TestThePrintedFormIsTheShortest(t *testing.T) {
	r := rand.New(rand.NewSource(48))
	for range 20000 {
		v := someValue(r, r.Intn(5))
		s := wantBothWays(t, v)
		// With blanks, escapes, and members in another order it is the same value.
		other := loose(r, v)
		if len(other) > 4000 {
			continue
		}
		got, errno, at := jot.Parse(other)
		if errno != api.OK || at != 0 || !jot.Same(got, v) {
			t.Fatalf("Parse(%q) = %s, %d, %d, want %s", other, told(got), errno, at, told(v))
		}
		again, errno := jot.Print(got)
		if errno != api.OK || again != s || len(again) > len(other) {
			t.Fatalf("Print of what was taken from %q = %q, %d, want %q", other, again, errno, s)
		}
		if !allMayBe(got) {
			t.Fatalf("Parse(%q) = %s", other, told(got))
		}
	}
}

func TestWhatIsTakenIsPrinted(t *testing.T) {
	r := rand.New(rand.NewSource(49))
	for range 40000 {
		s := spoiled(r, loose(r, someValue(r, r.Intn(4))))
		v, errno, _ := jot.Parse(s)
		if errno != api.OK {
			continue
		}
		again, errno := jot.Print(v)
		if errno != api.OK || len(again) > len(s) {
			t.Fatalf("Print of what was taken from %q = %q, %d", s, again, errno)
		}
		if wantBothWays(t, v) != again {
			t.Fatalf("%q is printed in two ways", told(v))
		}
	}
	// At the very length.
	for _, s := range []string{`"` + strings.Repeat(`\u0041`, 666) + `"`, `"` + strings.Repeat(`\ud83d\ude00`, 333) + `"`, "[" + strings.Repeat("-0,", 1332) + "0]", `"` + strings.Repeat(`\n`, 1999) + `"`} {
		v, errno, _ := jot.Parse(s)
		if again := wantBothWays(t, v); errno != api.OK || len(again) > len(s) {
			t.Errorf("%.40q is printed as %.40q", s, again)
		}
	}
}

func TestExamples(t *testing.T) {
	wantPrint(t, object([]string{"a", "b"}, num(7), list(null, yes)), `{"a":7,"b":[null,true]}`, api.OK)
	wantPrint(t, object([]string{"b", "a"}, num(7), list(null, yes)), "", api.ErrJotValue)

	two := object([]string{"a", "b"}, num(0), list())
	wantParse(t, `{ "b" : [ ] , "a" : -0 }`, two)
	wantParse(t, `"\u0041\/\u00e9\ud83d\ude00"`, text("\x41\x2f\xc3\xa9\xf0\x9f\x98\x80"))

	wantForm(t, "", 0)
	wantForm(t, "01", 1)
	wantForm(t, "[1,]", 3)
	wantWrong(t, `{"a":1,"a":2}`, api.ErrJotName, 9)
	wantWrong(t, "9007199254740992", api.ErrJotValue, 15)
	wantForm(t, `"\ud800x"`, 7)
	wantForm(t, `"\udc00"`, 4)
	wantWrong(t, strings.Repeat("[", 17), api.ErrJotDeep, 16)
	wantForm(t, strings.Repeat("[", 16), 16)
	wantForm(t, "nul", 3)
	wantForm(t, "1 2", 2)

	wantGet(t, two, "a", num(0), true)
	wantGet(t, two, "c", null, false)
	if !jot.Same(api.Jot{}, null) {
		t.Error("Same of the zero value and null")
	}
}

// Two goroutines that work on the same value disturb neither it nor one another.
func TestAtTheSameTime(t *testing.T) {
	v := someValue(rand.New(rand.NewSource(50)), 6)
	want, _ := jot.Print(v)
	done := make(chan bool)
	for range 4 {
		go func() {
			good := true
			for range 200 {
				s, _ := jot.Print(v)
				back, _, _ := jot.Parse(s)
				good = good && s == want && jot.Same(back, v)
			}
			done <- good
		}()
	}
	for range 4 {
		if !<-done {
			t.Error("answers unlike those of one goroutine alone")
		}
	}
}
