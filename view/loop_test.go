package view_test

import (
	"iter"
	"slices"
	"strings"
	"testing"

	"latchkey/api"
	"latchkey/view"
)

// within are the pairs whose keys are from or above it, and below to, unless that is empty: V3's words.
func within(l []api.Pair, from, to string) []api.Pair {
	return slices.DeleteFunc(slices.Clone(l), func(pair api.Pair) bool {
		return pair.Key < from || to != "" && pair.Key >= to
	})
}

// V3: any texts as from and to: empty, equal, to below from, keys, and texts between keys.
func TestLoopBounds(t *testing.T) {
	long := strings.Repeat("k", 36)
	for _, l := range [][]api.Pair{
		nil,
		pairs("b", "1"),
		pairs("\x00", "0", "a", "1", "a\x00", "2", "b", "", "c", val(200), long, "5", "\xff\xff", "6"),
		pairs("a", val(150), "a\x00", val(150), "b", val(150), "c", val(150), long, val(150), "\xff", val(150)),
	} {
		v := taken(t, having(t, 40, l).p)
		texts := []string{"", "\x00", "\x00\x00", "a", "a\x00", "a\x00\x00", "aa", "b", "b\x00", "bb", "c", "d", long[:35], long, long + "\x00", long + "k", strings.Repeat("k", 500), "l", "\xff", "\xff\xff", "\xff\xff\x00", strings.Repeat("\xff", 500)}
		for _, from := range texts {
			for _, to := range texts {
				wantLoops(t, v, from, to, within(l, from, to))
			}
		}
	}
}

// V3: a loop over a tree of several levels, from and to each of its keys.
func TestLoopLevels(t *testing.T) {
	l := remote(80)
	v := taken(t, having(t, 200, l).p)
	wantLoops(t, v, "", "", l)
	for i := 0; i < len(l); i += 3 {
		wantLoops(t, v, l[i].Key, "", l[i:])
		wantLoops(t, v, "", l[i].Key, l[:i])
		wantLoops(t, v, l[i].Key[:35], "", within(l, l[i].Key[:35], ""))
		for n := range min(3, len(l)-i) {
			wantLoops(t, v, l[i].Key, l[i+n].Key, l[i:i+n])
		}
	}
}

// both are the two loops over a span.
func both(v *view.View, from, to string) []iter.Seq2[string, string] {
	return []iter.Seq2[string, string]{v.Up(from, to), v.Down(from, to)}
}

// V3: what is given may be ranged over as often as one likes, each time from its first pair on, also behind a loop that stopped early.
func TestLoopAgain(t *testing.T) {
	l := pairs("a", "1", "b", "2", "d", "4")
	v := taken(t, abd(t).p)
	for i, loop := range both(v, "", "") {
		want := [][]api.Pair{l, turned(l)}[i]
		for stop := range 4 {
			var got []api.Pair
			for key, value := range loop {
				if len(got) == stop {
					break
				}
				got = append(got, api.Pair{Key: key, Value: value})
			}
			if !slices.Equal(got, want[:stop]) {
				t.Fatalf("up to %d: %v", stop, got)
			}
			wantLoop(t, "again", loop, want)
			wantLoop(t, "and again", loop, want)
		}
	}
	for i, loop := range both(v, "b", "c") {
		for range 3 {
			wantLoop(t, []string{"Up", "Down"}[i], loop, pairs("b", "2"))
		}
	}
}

// V3: no pair is given behind one at which a loop stopped.
func TestLoopStops(t *testing.T) {
	v := taken(t, abd(t).p)
	for _, loop := range both(v, "", "") {
		for stop := 1; stop <= 3; stop++ {
			calls := 0
			loop(func(string, string) bool {
				calls++
				return calls < stop
			})
			if calls != stop {
				t.Fatalf("%d pairs, want %d", calls, stop)
			}
		}
	}
}

// V3: loops within one another, over one value and over several.
func TestLoopsNested(t *testing.T) {
	v := taken(t, abd(t).p)
	up, down := v.Up("", ""), v.Down("", "d")
	var got []string
	for a := range up {
		for b := range up {
			for c := range down {
				got = append(got, a+b+c)
			}
			if b == a {
				break
			}
		}
	}
	want := strings.Fields("aab aaa bab baa bbb bba dab daa dbb dba ddb dda")
	if !slices.Equal(got, want) {
		t.Fatalf("%v, want %v", got, want)
	}
}

// V3: loops beside each other, each asked for a pair by turns.
func TestLoopsBeside(t *testing.T) {
	v := taken(t, abd(t).p)
	up := v.Up("", "")
	one, stopOne := iter.Pull2(up)
	two, stopTwo := iter.Pull2(up)
	back, stopBack := iter.Pull2(v.Down("", ""))
	defer stopOne()
	defer stopTwo()
	defer stopBack()
	var got []string
	note := func(next func() (string, string, bool)) {
		key, value, is := next()
		if is != (key != "") {
			t.Fatalf("%q, %q, %v", key, value, is)
		}
		got = append(got, key+value)
	}
	note(one)
	note(back)
	note(one)
	note(two)
	note(back)
	note(two)
	note(one)
	note(back)
	note(one)
	note(two)
	note(back)
	if want := []string{"a1", "d4", "b2", "a1", "b2", "b2", "d4", "a1", "", "d4", ""}; !slices.Equal(got, want) {
		t.Fatalf("%q, want %q", got, want)
	}
}

// V3: a loop ends ahead of the next pair, if the view is closed then, by whomever.
func TestLoopClosed(t *testing.T) {
	l := pairs("a", "1", "b", "2", "d", "4")
	for _, falling := range []bool{false, true} {
		for at := range 3 {
			s := abd(t)
			v, other := taken(t, s.p), taken(t, s.p)
			loop, want := v.Up("", ""), l
			if falling {
				loop, want = v.Down("", ""), turned(l)
			}
			var got []api.Pair
			for key, value := range loop {
				if got = append(got, api.Pair{Key: key, Value: value}); len(got) == at+1 {
					wantErrno(t, "Close", v.Close(), api.OK)
				}
			}
			if !slices.Equal(got, want[:at+1]) {
				t.Fatalf("closed at %d: %v", at, got)
			}
			for range 2 {
				wantLoop(t, "a loop over a closed view", loop, nil)
				wantLoops(t, v, "", "", nil)
			}
			wantDoubt(t, s.p, false)
			wantLoops(t, other, "", "", l)
		}
	}
}

// V3: a view that is closed between loops, within the inner one of two.
func TestLoopsNestedClosed(t *testing.T) {
	s := abd(t)
	v := taken(t, s.p)
	var got []string
	for a := range v.Up("", "") {
		for b := range v.Down("", "") {
			if got = append(got, a+b); a+b == "bd" {
				v.Close()
			}
		}
	}
	if want := strings.Fields("ad ab aa bd"); !slices.Equal(got, want) {
		t.Fatalf("%v, want %v", got, want)
	}
	v = taken(t, s.p) // it has that one's pin, but for the rest nothing in common with it
	wantCount(t, v, 3, api.OK)
}

// V3: a closed view asks no disk, and a loop that nobody goes over neither.
func TestLoopAsksNot(t *testing.T) {
	s := abd(t)
	v, closed := taken(t, s.p), taken(t, s.p)
	wantErrno(t, "Close", closed.Close(), api.OK)
	dead(t, s.d)
	wantLoops(t, closed, "", "", nil)
	loops := both(v, "", "")
	wantDoubt(t, s.p, false)
	wantLoop(t, "a loop on a dead disk", loops[0], nil)
	wantDoubt(t, s.p, true)
}

// V3: a loop ends ahead of the next pair, if the disk is dead then; the pager is in doubt from then on.
func TestLoopDead(t *testing.T) {
	l := pairs("a", "1", "b", "2", "d", "4")
	for _, falling := range []bool{false, true} {
		for at := range 3 {
			for _, stops := range []bool{false, true} {
				s := abd(t)
				v := taken(t, s.p)
				loop, want := v.Up("", ""), l
				if falling {
					loop, want = v.Down("", ""), turned(l)
				}
				var got []api.Pair
				for key, value := range loop {
					if got = append(got, api.Pair{Key: key, Value: value}); len(got) <= at {
						continue
					}
					dead(t, s.d)
					wantDoubt(t, s.p, false)
					if stops {
						break
					}
				}
				if !slices.Equal(got, want[:at+1]) {
					t.Fatalf("dead at %d: %v", at, got)
				}
				wantDoubt(t, s.p, !stops)
				wantLoop(t, "again", loop, nil)
				wantDoubt(t, s.p, true)
				wantErrno(t, "Crash", s.d.Crash(nil), api.OK)
				wantLoop(t, "behind a crash", loop, nil)
			}
		}
	}
}

// V3: also a loop that has no pairs, and one behind its last pair, asks whether the disk is dead.
func TestLoopOfNothingDead(t *testing.T) {
	for _, falling := range []bool{false, true} {
		for _, bounds := range [][2]string{{"b", "a"}, {"c", "c"}, {"c", "d"}, {"e", ""}, {"", "\x00"}} {
			s := abd(t)
			v := taken(t, s.p)
			dead(t, s.d)
			loop := v.Up(bounds[0], bounds[1])
			if falling {
				loop = v.Down(bounds[0], bounds[1])
			}
			wantDoubt(t, s.p, false)
			wantLoop(t, "a loop of nothing", loop, nil)
			wantDoubt(t, s.p, true)
		}
	}
}

// V3: a disk that dies in a commit within a loop.
func TestLoopCommitDies(t *testing.T) {
	s := abd(t)
	v := taken(t, s.p)
	var got []string
	for key := range v.Up("", "") {
		got = append(got, key)
		wantErrno(t, "Put", s.x.Put("z"+key, ""), api.OK)
		if key == "b" {
			wantErrno(t, "Arm", s.d.Arm(2), api.OK)
			wantErrno(t, "Commit", s.x.Commit(m16), api.ErrDead)
			wantErrno(t, "Crash", s.d.Crash(nil), api.OK)
		}
	}
	if !slices.Equal(got, []string{"a", "b"}) {
		t.Fatalf("%v", got)
	}
	wantRefused(t, v, api.ErrDead, api.ErrTreeKey)
}

// V3, V5: what is committed within a loop is none of what it gives.
func TestLoopCommits(t *testing.T) {
	l := remote(40)
	for _, falling := range []bool{false, true} {
		s := having(t, 400, l)
		v := taken(t, s.p)
		loop, want := v.Up("", ""), l
		if falling {
			loop, want = v.Down("", ""), turned(l)
		}
		var got []api.Pair
		for key, value := range loop {
			got = append(got, api.Pair{Key: key, Value: value})
			other := l[len(l)-len(got)].Key // what is still to come is deleted, and what was is changed
			s.change(t, key, "changed", other, "-", key[:35]+"\xff", val(len(got)))
		}
		if !slices.Equal(got, want) {
			t.Fatalf("%v", got)
		}
	}
}

// V3: loops do not move the cursor, nor does moving it disturb them.
func TestLoopAndCursor(t *testing.T) {
	v := taken(t, abd(t).p)
	wantLoops(t, v, "", "", pairs("a", "1", "b", "2", "d", "4"))
	wantNowhere(t, v, api.ErrViewPlace)
	wantSeek(t, v, "b", true, api.OK)
	for range v.Up("", "") {
		wantHere(t, v, "b", "2")
	}
	for range v.Down("", "") {
		wantHere(t, v, "b", "2")
	}
	var got []string
	for key := range v.Up("", "") {
		got = append(got, key)
		wantSeek(t, v, "", true, api.OK)
		if key == "b" {
			wantSeek(t, v, "z", false, api.OK)
			wantNowhere(t, v, api.ErrViewPlace)
		}
	}
	if !slices.Equal(got, []string{"a", "b", "d"}) {
		t.Fatalf("%v", got)
	}
	wantHere(t, v, "a", "1")
}

// A loop whose body panics is left so; the view is as it was.
func TestLoopPanics(t *testing.T) {
	v := taken(t, abd(t).p)
	for _, loop := range both(v, "", "") {
		func() {
			defer func() {
				if recover() != "out" {
					t.Fatal("the panic was swallowed")
				}
			}()
			for range loop {
				panic("out")
			}
		}()
	}
	wantLoops(t, v, "b", "", pairs("b", "2", "d", "4"))
}
