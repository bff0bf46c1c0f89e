package view_test

import (
	"strings"
	"testing"

	"latchkey/api"
)

// V4: Seek of any text: the first pair that is not below it.
func TestSeek(t *testing.T) {
	long := strings.Repeat("k", 36)
	s := having(t, 20, pairs("\x00\x00", "0", "a", "1", "a\x00", "2", "b", "", long, "5", "\xff", "6"))
	v := taken(t, s.p)
	for _, c := range []struct{ key, at, value string }{
		{"", "\x00\x00", "0"}, {"\x00", "\x00\x00", "0"}, {"\x00\x00", "\x00\x00", "0"}, {"\x00\x00\x00", "a", "1"},
		{"\x01", "a", "1"}, {"a", "a", "1"}, {"a\x00", "a\x00", "2"}, {"a\x00\x00", "b", ""}, {"aa", "b", ""},
		{"b", "b", ""}, {"b\x00", long, "5"}, {long[:35], long, "5"}, {long, long, "5"}, {long + "\x00", "\xff", "6"},
		{strings.Repeat("k", 1000), "\xff", "6"}, {"\xfe\xff", "\xff", "6"}, {"\xff", "\xff", "6"},
	} {
		wantSeek(t, v, c.key, true, api.OK)
		wantHere(t, v, c.at, c.value)
	}
	for _, key := range []string{"\xff\x00", "\xff\xff", strings.Repeat("\xff", 1000)} {
		wantSeek(t, v, "a", true, api.OK)
		wantSeek(t, v, key, false, api.OK)
		wantNowhere(t, v, api.ErrViewPlace)
	}
}

// V4: at first, and of the empty tree, the cursor stands nowhere.
func TestNowhere(t *testing.T) {
	for _, l := range [][]api.Pair{nil, pairs("a", "1"), remote(9)} {
		v := taken(t, having(t, 40, l).p)
		for range 2 {
			wantNowhere(t, v, api.ErrViewPlace)
			wantNext(t, v, false, api.ErrViewPlace)
			wantPrev(t, v, false, api.ErrViewPlace)
		}
		wantSeek(t, v, "", len(l) > 0, api.OK)
		wantSeek(t, v, "z", false, api.OK)
		wantNowhere(t, v, api.ErrViewPlace)
		wantNext(t, v, false, api.ErrViewPlace)
		wantPrev(t, v, false, api.ErrViewPlace)
	}
}

// V4: Next and Prev from each pair, and over both ends.
func TestNextAndPrev(t *testing.T) {
	for _, l := range [][]api.Pair{pairs("a", "1"), pairs("a", "1", "a\x00", "", "a\x00\x00", "3", "b", "4"), remote(3), remote(80)} {
		v := taken(t, having(t, 200, l).p)
		for i, pair := range l {
			wantSeek(t, v, pair.Key, true, api.OK)
			wantHere(t, v, pair.Key, pair.Value)
			wantNext(t, v, i+1 < len(l), api.OK)
			if i+1 < len(l) {
				wantHere(t, v, l[i+1].Key, l[i+1].Value)
				wantPrev(t, v, true, api.OK)
				wantHere(t, v, pair.Key, pair.Value)
			} else {
				wantNowhere(t, v, api.ErrViewPlace)
				wantPrev(t, v, false, api.ErrViewPlace)
				wantSeek(t, v, pair.Key, true, api.OK)
			}
			wantPrev(t, v, i > 0, api.OK)
			if i > 0 {
				wantHere(t, v, l[i-1].Key, l[i-1].Value)
			} else {
				wantNowhere(t, v, api.ErrViewPlace)
				wantNext(t, v, false, api.ErrViewPlace)
			}
		}
		wantSeek(t, v, "", true, api.OK)
		for range l[1:] {
			wantNext(t, v, true, api.OK)
		}
		for range l[1:] {
			wantPrev(t, v, true, api.OK)
		}
		wantHere(t, v, l[0].Key, l[0].Value)
		wantPrev(t, v, false, api.OK)
	}
}

// V4: the errors in their order; what is refused moves no cursor.
func TestCursorErrors(t *testing.T) {
	s := abd(t)
	v, nowhere, closed := taken(t, s.p), taken(t, s.p), taken(t, s.p)
	wantSeek(t, v, "b", true, api.OK)
	wantSeek(t, closed, "b", true, api.OK)
	wantErrno(t, "Close", closed.Close(), api.OK)
	dead(t, s.d)
	wantSeek(t, closed, "", false, api.ErrViewClosed)
	wantNext(t, closed, false, api.ErrViewClosed)
	wantPrev(t, closed, false, api.ErrViewClosed)
	wantNowhere(t, closed, api.ErrViewClosed)
	wantDoubt(t, s.p, false)
	wantNext(t, nowhere, false, api.ErrDead)
	wantDoubt(t, s.p, true)
	wantPrev(t, nowhere, false, api.ErrDead)
	wantNowhere(t, nowhere, api.ErrDead)
	wantSeek(t, nowhere, "z", false, api.ErrDead)
	wantSeek(t, v, "", false, api.ErrDead)
	wantNext(t, v, false, api.ErrDead)
	wantPrev(t, v, false, api.ErrDead)
	wantNowhere(t, v, api.ErrDead)
}

// V4: the pair on which a cursor stands is changed and deleted behind it, and all else.
func TestCursorBehind(t *testing.T) {
	s := abd(t)
	v := taken(t, s.p)
	wantSeek(t, v, "b", true, api.OK)
	s.change(t, "a", "9", "b", "-", "c", "3", "d", "8", "e", "5")
	wantHere(t, v, "b", "2")
	wantNext(t, v, true, api.OK)
	wantHere(t, v, "d", "4")
	s.change(t, "a", "-", "c", "-", "d", "-", "e", "-")
	wantHere(t, v, "d", "4")
	wantPrev(t, v, true, api.OK)
	wantPrev(t, v, true, api.OK)
	wantHere(t, v, "a", "1")
	wantSeek(t, v, "c", true, api.OK)
	wantHere(t, v, "d", "4")
	wantNext(t, v, false, api.OK)
}

// V4: each view has a cursor of its own; no other call moves it.
func TestCursorsApart(t *testing.T) {
	s := abd(t)
	one, two := taken(t, s.p), taken(t, s.p)
	wantSeek(t, one, "b", true, api.OK)
	wantNowhere(t, two, api.ErrViewPlace)
	wantSeek(t, two, "d", true, api.OK)
	wantHere(t, one, "b", "2")
	wantCount(t, one, 3, api.OK)
	wantGet(t, one, "a", "1", true, api.OK)
	wantGet(t, one, "", "", false, api.ErrTreeKey)
	wantLoops(t, one, "", "", pairs("a", "1", "b", "2", "d", "4"))
	wantNote(t, one, n16)
	wantHere(t, one, "b", "2")
	wantNext(t, two, false, api.OK)
	wantErrno(t, "Close", two.Close(), api.OK)
	wantHere(t, one, "b", "2")
	three := taken(t, s.p)
	wantNowhere(t, three, api.ErrViewPlace)
	wantHere(t, one, "b", "2")
}
