package record_test

import (
	"math"
	"math/rand"
	"testing"

	"latchkey/api"
	"latchkey/record"
)

func wantNote(t *testing.T, next, now int) {
	t.Helper()
	s, e := record.PrintNote(next, now)
	if !between(next, 1, lastID+1) || !isTime(now) {
		if s != "" || e != api.ErrRecordField {
			t.Errorf("PrintNote(%d, %d): %q, %d", next, now, s, e)
		}
		return
	}
	if want := by(8, next) + by(6, now) + "\x00\x00"; s != want || e != api.OK || len(s) != api.NoteSize {
		t.Errorf("PrintNote(%d, %d): %q, %d, want %q", next, now, s, e, want)
	}
	if a, b, e := record.ParseNote(s); a != next || b != now || e != api.OK {
		t.Errorf("ParseNote of PrintNote(%d, %d): %d, %d, %d", next, now, a, b, e)
	}
}

func wantNoNote(t *testing.T, s string) {
	t.Helper()
	if next, now, e := record.ParseNote(s); next != 0 || now != 0 || e != api.ErrRecordForm {
		t.Errorf("ParseNote of %q: %d, %d, %d", s, next, now, e)
	}
}

// R6: at the ends of what may be, and one beyond them.
func TestNotes(t *testing.T) {
	for _, next := range someNumbers() {
		for _, now := range someNumbers() {
			wantNote(t, next, now)
		}
	}
	r := rand.New(rand.NewSource(18))
	for range 5000 {
		wantNote(t, within(r, 1, lastID+1), someTime(r))
	}
	for _, c := range [][2]int{{0, 0}, {-1, 0}, {lastID + 2, 0}, {1, -1}, {1, lastTime + 1}, {0, -1}, {math.MinInt, math.MaxInt}} {
		if s, e := record.PrintNote(c[0], c[1]); s != "" || e != api.ErrRecordField {
			t.Errorf("PrintNote(%d, %d): %q, %d", c[0], c[1], s, e)
		}
	}
	for _, c := range [][2]int{{1, 0}, {lastID, 0}, {lastID + 1, lastTime}, {1, lastTime}} {
		if s, e := record.PrintNote(c[0], c[1]); len(s) != 16 || e != api.OK {
			t.Errorf("PrintNote(%d, %d): %q, %d", c[0], c[1], s, e)
		}
	}
}

// R6: texts that are no note.
func TestNoNotes(t *testing.T) {
	for _, s := range []string{
		"", "\x00", many(16, "\x00"), many(16, "\xff"), many(16, "a"),
		by(8, 0) + by(6, 0) + "\x00\x00", by(8, lastID+2) + by(6, 0) + "\x00\x00", "\x80" + by(7, 1) + by(6, 0) + "\x00\x00", many(8, "\xff") + by(6, 0) + "\x00\x00",
		by(8, 1) + by(6, lastTime+1) + "\x00\x00", by(8, 1) + many(6, "\xff") + "\x00\x00", by(8, 1) + "\x80" + by(5, 0) + "\x00\x00",
		by(8, 1) + by(6, 0) + "\x00\x01", by(8, 1) + by(6, 0) + "\x01\x00", by(8, 1) + by(6, 0) + "\xff\xff", by(8, 1) + by(6, 0) + "\x80\x00",
		by(8, 1) + by(6, 0), by(8, 1) + by(6, 0) + "\x00", by(8, 1) + by(6, 0) + "\x00\x00\x00", by(8, 1) + by(6, 0) + "\x00\x00a", "\x00" + by(8, 1) + by(6, 0) + "\x00\x00",
		by(8, 1) + by(6, 0) + many(70000, "\x00"),
	} {
		wantNoNote(t, s)
	}
}

// R6: each byte of a note turned to each other one: the note that it is then, or none.
func TestTurnedNotes(t *testing.T) {
	for _, s := range []string{by(8, 1) + by(6, 0) + "\x00\x00", by(8, lastID+1) + by(6, lastTime) + "\x00\x00", by(8, 258) + by(6, 65537) + "\x00\x00"} {
		eachTurned(api.Pair{Key: s}, func(p api.Pair) {
			next, now := number(p.Key[:8]), number(p.Key[8:14])
			if !between(next, 1, lastID+1) || !isTime(now) || p.Key[14:] != "\x00\x00" {
				wantNoNote(t, p.Key)
			} else if a, b, e := record.ParseNote(p.Key); a != next || b != now || e != api.OK {
				t.Errorf("ParseNote of %q: %d, %d, %d", p.Key, a, b, e)
			}
		})
		for n := range 16 {
			wantNoNote(t, s[:n])
			wantNoNote(t, s[:n]+s[n+1:])
			wantNoNote(t, s+s[:n+1])
		}
	}
}
