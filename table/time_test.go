package table_test

import (
	"testing"

	"latchkey/api"
	"latchkey/table"
)

func wantSee(t *testing.T, x *table.Table, reading, want int) {
	t.Helper()
	if got := x.See(reading); got != want || x.Now() != want {
		t.Fatalf("See(%d): %d, Now: %d; want %d", reading, got, x.Now(), want)
	}
}

// B3: from the note's time on.
func TestSee(t *testing.T) {
	_, x := atHome(t)
	if x.Now() != homeTime {
		t.Fatalf("Now: %d", x.Now())
	}
	for _, c := range [][2]int{
		{0, homeTime}, {-1, homeTime}, {least, homeTime}, {homeTime - 1, homeTime}, {homeTime, homeTime}, {homeTime + 1, homeTime + 1},
		{homeTime, homeTime + 1}, {5000, 5000}, {4999, 5000}, {lastTime - 1, lastTime - 1}, {lastTime, lastTime}, {0, lastTime}, {lastTime + 1, lastTime}, {most, lastTime}, {least, lastTime},
	} {
		wantSee(t, x, c[0], c[1])
	}
	_, x = began(t, 8)
	wantSee(t, x, least, 0)
	wantSee(t, x, 7, 7)
	_, x = began(t, 8)
	wantSee(t, x, most, lastTime)
}

// B3, B10: the time is noted with a commit, stays over Abort, and falls back only for whoever opens the table anew.
func TestTimeOverCommits(t *testing.T) {
	d, x := atHome(t)
	wantSee(t, x, 2000, 2000)
	x.Abort()
	wantSee(t, x, 0, 2000)
	wantTable(t, "nothing was committed", d, home(), homeTime)
	wantErrno(t, "Commit", x.Commit(), api.OK)
	wantTable(t, "committed", d, home(), 2000)
	wantSee(t, x, 3000, 3000)
	x.Abort()
	wantSee(t, x, 0, 3000)
	wantTable(t, "not committed", d, home(), 2000)
	wantSee(t, x, most, lastTime)
	wantErrno(t, "Commit", x.Commit(), api.OK)
	wantTable(t, "the last time", d, home(), lastTime)
}

// B3: whatever is refused, the time stays as it was seen.
func TestTimeOverErrors(t *testing.T) {
	d, x := atHome(t)
	wantSee(t, x, 2000, 2000)
	wantErrno(t, "PutClient", x.PutClient(api.Client{}), api.ErrRecordField)
	kill(t, d)
	wantErrno(t, "Commit", x.Commit(), api.ErrDead)
	wantSee(t, x, 0, 2000)
	x.Abort()
	wantSee(t, x, 2001, 2001)
}

// B3, B10: these ask no disk: a dead one is not noticed by them.
func TestAskNoDisk(t *testing.T) {
	d, x := atHome(t)
	p := x.Pager()
	kill(t, d)
	wantSee(t, x, 2000, 2000)
	x.Abort()
	if x.Pager() != p || p == nil || p.Doubt() || x.Now() != 2000 {
		t.Fatal("the pager is another one, or in doubt")
	}
	wantErrno(t, "Crash", d.Crash(nil), api.OK)
	wantHas(t, "behind the crash", x, newPlain(home(), 2000))
	wantErrno(t, "Commit", x.Commit(), api.OK)
}

// B3: the pager is the one on which the table commits.
func TestPager(t *testing.T) {
	d, x := atHome(t)
	was := x.Pager().Generation()
	wantErrno(t, "Commit", x.Commit(), api.OK)
	if x.Pager().Generation() != was+1 || generation(t, d) != was+1 {
		t.Fatalf("the generation %d, on the disk %d; want %d", x.Pager().Generation(), generation(t, d), was+1)
	}
	if x.Pager().Size() != 64 || x.Pager().Note() != noteOf(t, 300, homeTime) {
		t.Fatalf("%d blocks, the note %q", x.Pager().Size(), x.Pager().Note())
	}
}

// B4: one behind the other, over Commit and Abort.
func TestID(t *testing.T) {
	d, x := atHome(t)
	wantNext(t, "the note's", x, 300)
	wantNext(t, "the one behind it", x, 301)
	wantHas(t, "IDs are no records", x, newPlain(home(), homeTime))
	x.Abort()
	wantNext(t, "behind Abort", x, 300)
	wantNext(t, "behind Abort", x, 301)
	wantNext(t, "behind Abort", x, 302)
	wantErrno(t, "Commit", x.Commit(), api.OK)
	wantNext(t, "behind Commit", x, 303)
	wantNext(t, "behind Commit", x, 304)
	x.Abort()
	wantNext(t, "behind Commit and Abort", x, 303)
	x.Abort()
	x.Abort()
	wantNext(t, "behind Abort twice", x, 303)
	y := opened(t, d)
	wantNext(t, "opened anew", y, 303)
}

// B4: up to the last one.
func TestLastID(t *testing.T) {
	l := home()
	l.next = lastID - 1
	d := built(t, 64, l, homeTime)
	x := opened(t, d)
	for range 3 {
		wantNext(t, "the last but one", x, lastID-1)
		wantNext(t, "the last one", x, lastID)
		wantNext(t, "none is left", x, lastID+1)
		wantNext(t, "none is left", x, lastID+1)
		x.Abort()
	}
	wantNext(t, "the last but one", x, lastID-1)
	wantNext(t, "the last one", x, lastID)
	wantErrno(t, "Commit", x.Commit(), api.OK)
	wantNext(t, "none is left, for good", x, lastID+1)
	x.Abort()
	wantNext(t, "none is left, for good", x, lastID+1)
	wantErrno(t, "Commit", x.Commit(), api.OK)
	l.next = lastID + 1
	x = wantTable(t, "none is left", d, l, homeTime)
	wantErrno(t, "PutCode", x.PutCode(freshCode(lastID)), api.OK)
	wantErrno(t, "Commit", x.Commit(), api.OK)
	kill(t, d)
	wantCall(t, x, nextID(), 0, api.ErrDead)
}
