package view_test

import (
	"testing"

	"latchkey/api"
)

// The chapter's first example.
func TestFirstExample(t *testing.T) {
	s := abd(t)
	v := taken(t, s.p)
	s.change(t, "b", "-", "c", "3")
	wantNote(t, v, n16)
	wantGet(t, v, "b", "2", true, api.OK)
	wantGet(t, v, "c", "", false, api.OK)
	wantCount(t, v, 3, api.OK)
	wantLoop(t, "Up", v.Up("b", "d"), pairs("b", "2"))
	wantLoop(t, "Up", v.Up("", ""), pairs("a", "1", "b", "2", "d", "4"))
	wantLoop(t, "Down", v.Down("b", ""), pairs("d", "4", "b", "2"))
	wantGet(t, v, "", "", false, api.ErrTreeKey)
}

// The second one.
func TestSecondExample(t *testing.T) {
	v := taken(t, abd(t).p)
	wantNowhere(t, v, api.ErrViewPlace)
	wantSeek(t, v, "c", true, api.OK)
	wantHere(t, v, "d", "4")
	wantPrev(t, v, true, api.OK)
	wantHere(t, v, "b", "2")
	wantPrev(t, v, true, api.OK)
	wantPrev(t, v, false, api.OK)
	wantNext(t, v, false, api.ErrViewPlace)
	wantSeek(t, v, "e", false, api.OK)
}

// The third one.
func TestThirdExample(t *testing.T) {
	s := abd(t)
	v := taken(t, s.p)
	var got []string
	for key := range v.Up("", "") {
		got = append(got, key)
		wantErrno(t, "Close", v.Close(), api.OK)
	}
	if len(got) != 1 || got[0] != "a" {
		t.Fatalf("%v", got)
	}
	wantErrno(t, "Close", v.Close(), api.ErrViewClosed)
	wantGet(t, v, "a", "", false, api.ErrViewClosed)
	for range 4 {
		taken(t, s.p)
	}
	wantNoTake(t, s.p, api.ErrPagerPins)
}
