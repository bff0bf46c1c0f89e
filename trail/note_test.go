package trail_test

import (
	"slices"
	"testing"

	"latchkey/api"
	"latchkey/disk"
	"latchkey/table"
	"latchkey/trail"
)

// noteArgs are what Note takes.
type noteArgs struct {
	kind, family int
	who          string
}

// right says whether these may be.
func (a noteArgs) right() bool {
	return within(a.kind, 1, 9) && within(a.family, 0, lastID) && isNameOrEmpty(a.who)
}

// manyArgs are arguments at their edges and beyond.
func manyArgs() []noteArgs {
	var l []noteArgs
	for _, n := range edges() {
		l = append(l, noteArgs{n, 3, "app"}, noteArgs{7, n, "app"}, noteArgs{n, n, ""}, noteArgs{n, 0, "App"})
	}
	for _, s := range append(rightNames(), wrongNames()...) {
		l = append(l, noteArgs{7, 3, s}, noteArgs{0, -1, s})
	}
	return l
}

// T2: which arguments may be; what may not be changes nothing.
func TestNoteArgs(t *testing.T) {
	d, x := began(t, 40)
	p := newPlain()
	acts := d.Acts()
	for n, a := range manyArgs() {
		x.See(n)
		p.see(n)
		if a.right() {
			wantNote(t, x, a.kind, a.family, a.who, p.note(a.kind, a.family, a.who), api.OK)
		} else {
			wantNote(t, x, a.kind, a.family, a.who, 0, api.ErrTrailField)
		}
		c, l := p.read()
		wantTrail(t, "behind a note", x, c, l)
	}
	if len(p.all) < 34 || d.Acts() != acts {
		t.Fatalf("%d notes, %d acts", len(p.all), d.Acts()-acts)
	}
}

// T2: each kind, and each thing that it goes with, one by one.
func TestNoteKinds(t *testing.T) {
	for _, a := range []struct {
		noteArgs
		errno api.Errno
	}{
		{noteArgs{0, 0, ""}, api.ErrTrailField},
		{noteArgs{1, 0, ""}, api.OK},
		{noteArgs{9, 0, ""}, api.OK},
		{noteArgs{10, 0, ""}, api.ErrTrailField},
		{noteArgs{-1, 0, ""}, api.ErrTrailField},
		{noteArgs{1, -1, ""}, api.ErrTrailField},
		{noteArgs{1, 1, ""}, api.OK},
		{noteArgs{1, lastID, ""}, api.OK},
		{noteArgs{1, lastID + 1, ""}, api.ErrTrailField},
		{noteArgs{1, 0, many(16, "a")}, api.OK},
		{noteArgs{1, 0, many(17, "a")}, api.ErrTrailField},
		{noteArgs{1, 0, "A"}, api.ErrTrailField},
	} {
		_, x := began(t, 16)
		number := 1
		if a.errno != api.OK {
			number = 0
		}
		wantNote(t, x, a.kind, a.family, a.who, number, a.errno)
		if a.errno == api.OK {
			e := api.Event{Number: 1, Kind: a.kind, Family: a.family, Who: a.who}
			wantTrail(t, "one note", x, api.Chain{Next: 2, BaseHash: noughts, NextHash: shaLink(noughts, e)}, []api.Event{e})
		} else {
			wantTrail(t, "no note", x, api.Chain{Next: 1, BaseHash: noughts, NextHash: noughts}, nil)
		}
	}
}

// ended is a disk with a table whose next event has that number, and so many that are kept.
func ended(t *testing.T, next, kept int) (*disk.Disk, *table.Table, api.Chain, []api.Event) {
	t.Helper()
	d, x := began(t, 40)
	x.See(500)
	c, l := someTrail(next-1-kept, kept)
	put(t, x, c, l)
	wantErrno(t, "Commit", x.Commit(), api.OK)
	return d, x, c, l
}

// T2: what may not be is told ahead of ErrDead, and that ahead of ErrTableWorn.
func TestNoteOrderOfErrors(t *testing.T) {
	for _, next := range []int{1, 40, lastID, lastID + 1} {
		d, x, c, l := ended(t, next, min(next-1, 32))
		for _, a := range manyArgs() {
			if !a.right() {
				wantNote(t, x, a.kind, a.family, a.who, 0, api.ErrTrailField)
			}
		}
		wantTrail(t, "behind what may not be", x, c, l)
		kill(t, d)
		for _, a := range manyArgs() {
			if a.right() {
				wantNote(t, x, a.kind, a.family, a.who, 0, api.ErrDead)
			} else {
				wantNote(t, x, a.kind, a.family, a.who, 0, api.ErrTrailField)
			}
		}
		wantDead(t, "killed", x)
		wantErrno(t, "Crash", d.Crash(nil), api.OK)
		wantTrail(t, "opened anew", opened(t, d), c, l)
	}
}

// T2: no number is left behind 2^62.
func TestNoteWorn(t *testing.T) {
	for kept := range 33 {
		d, x, c, l := ended(t, lastID+1, kept)
		acts, free := d.Acts(), x.Pager().Free()
		for range 2 {
			wantNote(t, x, api.EventIssue, 3, "app", 0, api.ErrTableWorn)
			wantTrail(t, "worn", x, c, l)
		}
		if d.Acts() != acts || x.Pager().Free() != free {
			t.Fatalf("%d acts", d.Acts()-acts)
		}
		wantErrno(t, "Commit", x.Commit(), api.OK)
		wantTrail(t, "worn, and opened anew", opened(t, d), c, l)

		d, x, c, l = ended(t, lastID, kept)
		wantNote(t, x, api.EventIssue, 3, "app", lastID, api.OK)
		c, l = stepped(c, l, api.Event{Number: lastID, Time: 500, Kind: api.EventIssue, Family: 3, Who: "app"})
		wantTrail(t, "the last number", x, c, l)
		wantNote(t, x, api.EventIssue, 3, "app", 0, api.ErrTableWorn)
		wantTrail(t, "behind the last number", x, c, l)
		wantErrno(t, "Commit", x.Commit(), api.OK)
		x = opened(t, d)
		wantTrail(t, "opened anew", x, c, l)
		wantNote(t, x, api.EventIssue, 3, "app", 0, api.ErrTableWorn)
	}
}

// T2: what was not committed counts for the numbers, too; an Abort gives them back.
func TestNoteWornInTheChanges(t *testing.T) {
	_, x, c, l := ended(t, lastID-1, 5)
	wantNote(t, x, api.EventKey, 0, "", lastID-1, api.OK)
	wantNote(t, x, api.EventKey, 0, "", lastID, api.OK)
	wantNote(t, x, api.EventKey, 0, "", 0, api.ErrTableWorn)
	x.Abort()
	wantTrail(t, "aborted", x, c, l)
	wantNote(t, x, api.EventKey, 0, "", lastID-1, api.OK)
}

// stepped is a trail with one more event, of which 32 are kept.
func stepped(c api.Chain, l []api.Event, e api.Event) (api.Chain, []api.Event) {
	c.Next, c.NextHash = c.Next+1, shaLink(c.NextHash, e)
	l = append(slices.Clone(l), e)
	if len(l) == 33 {
		c.Base, c.BaseHash = c.Base+1, shaLink(c.BaseHash, l[0])
		l = l[1:]
	}
	return c, l
}

// T2: the 32nd, 33rd and 34th event, and all others up to the 70th: the ends, and what is kept.
func TestNoteOldestGoes(t *testing.T) {
	for _, every := range []int{1, 5, 100} { // so many notes in one commit
		d, x := began(t, 40)
		c, l := api.Chain{Next: 1, BaseHash: noughts, NextHash: noughts}, []api.Event(nil)
		hashes := []string{noughts}
		for n := 1; n <= 70; n++ {
			e := api.Event{Number: n, Time: 10 * n, Kind: 1 + n%9, Family: n % 4, Who: []string{"", "app"}[n%2]}
			x.See(10 * n)
			wantNote(t, x, e.Kind, e.Family, e.Who, n, api.OK)
			c, l = stepped(c, l, e)
			hashes = append(hashes, shaLink(hashes[n-1], e))
			base := max(0, n-32)
			if c != (api.Chain{Base: base, Next: n + 1, BaseHash: hashes[base], NextHash: hashes[n]}) || len(l) != n-base {
				t.Fatalf("the test is wrong: %v", c)
			}
			wantTrail(t, "behind a note", x, c, l)
			if n%every == 0 {
				wantErrno(t, "Commit", x.Commit(), api.OK)
				x = opened(t, d)
				wantTrail(t, "opened anew", x, c, l)
			}
		}
	}
}

// T2: a trail that began elsewhere, with any number of events, goes on from there.
func TestNoteFromAnyBase(t *testing.T) {
	for _, base := range []int{0, 1, 2, 255, 1 << 32, lastID - 200} {
		for kept := range 33 {
			_, x := began(t, 40)
			c, l := someTrail(base, kept)
			put(t, x, c, l)
			x.See(77)
			for n := range 34 {
				e := api.Event{Number: c.Next, Time: 77, Kind: 2, Family: n, Who: "web"}
				wantNote(t, x, 2, n, "web", c.Next, api.OK)
				c, l = stepped(c, l, e)
				if n < 2 || n > 30 {
					wantTrail(t, "behind a note", x, c, l)
				}
			}
		}
	}
}

// T2: nothing is committed; Abort takes it back, and so does opening anew.
func TestNoteIsNotCommitted(t *testing.T) {
	for _, before := range []int{0, 1, 31, 32, 33, 40} {
		d, x := began(t, 40)
		p := newPlain()
		for range before {
			wantNote(t, x, api.EventKey, 0, "", p.note(api.EventKey, 0, ""), api.OK)
		}
		wantErrno(t, "Commit", x.Commit(), api.OK)
		p.commit()
		stood, events := p.read()
		acts, generation, blocks := d.Acts(), x.Pager().Generation(), d.Blocks()
		for _, notes := range []int{1, 2, 33, 70} {
			for range notes {
				wantNote(t, x, api.EventCode, 9, "app", p.note(api.EventCode, 9, "app"), api.OK)
			}
			c, l := p.read()
			wantTrail(t, "begun", x, c, l)
			if d.Acts() != acts || x.Pager().Generation() != generation || !slices.Equal(d.Blocks(), blocks) {
				t.Fatalf("%d acts", d.Acts()-acts)
			}
			if notes == 33 {
				x = opened(t, d)
			} else {
				x.Abort()
			}
			p.abort()
			wantTrail(t, "forgotten", x, stood, events)
		}
	}
}

// T2: the time is the table's.
func TestNoteTime(t *testing.T) {
	d, x := began(t, 16)
	p := newPlain()
	for _, reading := range []int{least, -1, 0, 50, 40, 51, lastTime - 1, 7, lastTime, lastTime + 1, most, 0} {
		x.See(reading)
		p.see(reading)
		wantNote(t, x, api.EventKey, 0, "", p.note(api.EventKey, 0, ""), api.OK)
		c, l := p.read()
		wantTrail(t, "behind a note", x, c, l)
		if l[len(l)-1].Time != x.Now() {
			t.Fatalf("%d, and it is %d", l[len(l)-1].Time, x.Now())
		}
	}
	wantErrno(t, "Commit", x.Commit(), api.OK)
	x = opened(t, d)
	wantNote(t, x, api.EventKey, 0, "", p.note(api.EventKey, 0, ""), api.OK)
	c, l := p.read()
	wantTrail(t, "opened anew", x, c, l)
}

// T2: a note changes the chain and the events alone; what else was begun stays, and is committed and forgotten with them.
func TestNoteAmongOtherChanges(t *testing.T) {
	d, x := began(t, 40)
	client := api.Client{Name: "app", Public: true, Scope: []string{"read"}, Idle: 5, Absolute: 6, Grace: 7, Life: 8}
	key := api.Key{Number: 3, Secret: many(24, "s"), From: 0, Until: 9}
	id, errno := x.ID()
	wantErrno(t, "ID", errno, api.OK)
	wantErrno(t, "PutClient", x.PutClient(client), api.OK)
	wantNote(t, x, api.EventClient, 0, "app", 1, api.OK)
	wantErrno(t, "PutKey", x.PutKey(key), api.OK)
	wantNote(t, x, api.EventKey, 0, "", 2, api.OK)
	has := func(what string, x *table.Table) {
		t.Helper()
		clients, _ := x.Clients()
		keys, _ := x.Keys()
		events, _ := x.Events()
		if len(clients) != 1 || clients[0].Name != "app" || !slices.Equal(keys, []api.Key{key}) || len(events) != 2 {
			t.Fatalf("%s: %v, %v, %v", what, clients, keys, events)
		}
	}
	has("begun", x)
	wantErrno(t, "Commit", x.Commit(), api.OK)
	has("committed", x)
	x = opened(t, d)
	has("opened anew", x)
	if next, errno := x.ID(); next != id+1 || errno != api.OK {
		t.Fatalf("a note took an ID: %d, %d", next, errno)
	}
	wantErrno(t, "RemoveKey", x.RemoveKey(3), api.OK)
	wantNote(t, x, api.EventKey, 0, "", 3, api.OK)
	x.Abort()
	has("aborted", x)
}

// T2: a disk without a free page is enough for a note, which commits nothing; what has no room is told by the commit, and the note stays begun.
func TestNoteOnAFullDisk(t *testing.T) {
	_, x := began(t, 8)
	for n := 1; ; n++ {
		wantNote(t, x, api.EventIssue, 1, many(16, "a"), n, api.OK)
		errno := x.Commit()
		if errno == api.ErrPagerFull {
			c, l, e := trail.Read(x)
			if c.Next != n+1 || len(l) != min(n, 32) || e != api.OK {
				t.Fatalf("%d: %d, %d events, %d", n, c.Next, len(l), e)
			}
			x.Abort()
			if c, _, _ := trail.Read(x); c.Next != n {
				t.Fatalf("%d: %d", n, c.Next)
			}
			return
		}
		wantErrno(t, "Commit", errno, api.OK)
		if n == 60 {
			t.Fatal("the test is wrong: there is room for all")
		}
	}
}

// Of tables whose events are not as the chain says nothing is promised but that each call ends; yet an error leaves them as they were.
func TestNoteOnBrokenTrails(t *testing.T) {
	for _, base := range []int{0, 1, 40, lastID - 40, lastID - 33, lastID - 32, lastID} {
		for _, span := range []int{1, 2, 32, 33} {
			for _, events := range [][]int{nil, {1}, {base + 2}, {base + 33}, {lastID}, {1, 2, 3, lastID}} {
				_, x := began(t, 40)
				if x.PutChain(api.Chain{Base: base, Next: base + span, BaseHash: noughts, NextHash: noughts}) != api.OK {
					continue
				}
				for _, n := range events {
					x.PutEvent(some(n))
				}
				for range 3 {
					was, stood, _ := trail.Read(x)
					n, errno := trail.Note(x, api.EventKey, 0, "")
					is, l, _ := trail.Read(x)
					if errno != api.OK && (n != 0 || is != was || !slices.Equal(l, stood)) {
						t.Fatalf("%d beside %d; %x, %v; want %x, %v", n, errno, is, l, was, stood)
					}
				}
			}
		}
	}
}
