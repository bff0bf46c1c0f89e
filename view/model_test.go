package view_test

import (
	"maps"
	"math/rand"
	"slices"
	"strings"
	"testing"

	"latchkey/api"
	"latchkey/view"
)

// seen is what a view must tell, by the chapter's words: a plain list of pairs, and a place in it.
type seen struct {
	v      *view.View
	w      *play
	note   string
	pairs  []api.Pair
	at     int // nowhere: -1
	closed bool
}

// play is a store with views of it, and what must come of it all.
type play struct {
	*store
	t           *testing.T
	r           *rand.Rand
	style       style
	stands, has map[string]string
	note        string
	views       []*seen
	pins        map[int]bool // of others
	dead, doubt bool
}

func newPlay(t *testing.T, r *rand.Rand, style style, blocks int) *play {
	t.Helper()
	w := &play{t: t, r: r, style: style, stands: map[string]string{}, has: map[string]string{}}
	w.begin(began(t, blocks))
	w.note = m16
	return w
}

// begin goes on with a store that was mounted anew; views of the old one stay as they are.
func (w *play) begin(s *store) {
	w.store, w.pins, w.dead, w.doubt = s, map[int]bool{}, false, false
	w.has = maps.Clone(w.stands)
}

// ask is what each call answers that asks for what stands on the disk; a death that was told is never forgotten.
func (w *play) ask() api.Errno {
	if w.dead || w.doubt {
		w.doubt = true
		return api.ErrDead
	}
	return api.OK
}

// open is how many views are open.
func (w *play) open() int {
	n := 0
	for _, s := range w.views {
		if !s.closed && s.w == w {
			n++
		}
	}
	return n
}

// rising are pairs by rising keys.
func rising(m map[string]string) []api.Pair {
	var l []api.Pair
	for _, key := range slices.Sorted(maps.Keys(m)) {
		l = append(l, api.Pair{Key: key, Value: m[key]})
	}
	return l
}

func (w *play) take() {
	w.t.Helper()
	errno := w.ask()
	if errno == api.OK && w.open()+len(w.pins) == 4 {
		errno = api.ErrPagerPins
	}
	if errno != api.OK {
		wantNoTake(w.t, w.p, errno)
		return
	}
	w.views = append(w.views, &seen{taken(w.t, w.p), w, w.note, rising(w.stands), -1, false})
}

// ask is what a call of a view answers ahead of all else.
func (s *seen) ask() api.Errno {
	if s.closed {
		return api.ErrViewClosed
	}
	return s.w.ask()
}

// find is the place of a key, or of the first one above it.
func (s *seen) find(key string) (int, bool) {
	return slices.BinarySearchFunc(s.pairs, key, func(pair api.Pair, key string) int { return strings.Compare(pair.Key, key) })
}

func (s *seen) get(t *testing.T, key string) {
	t.Helper()
	switch at, there := s.find(key); {
	case s.closed:
		wantGet(t, s.v, key, "", false, api.ErrViewClosed)
	case len(key) < 1 || len(key) > 36:
		wantGet(t, s.v, key, "", false, api.ErrTreeKey)
	case s.ask() != api.OK:
		wantGet(t, s.v, key, "", false, api.ErrDead)
	case there:
		wantGet(t, s.v, key, s.pairs[at].Value, true, api.OK)
	default:
		wantGet(t, s.v, key, "", false, api.OK)
	}
}

func (s *seen) count(t *testing.T) {
	t.Helper()
	if errno := s.ask(); errno != api.OK {
		wantCount(t, s.v, 0, errno)
		return
	}
	wantCount(t, s.v, len(s.pairs), api.OK)
}

// place is where the cursor comes to stand; is that on a pair?
func (s *seen) place(at int) bool {
	s.at = at
	if at < 0 || at >= len(s.pairs) {
		s.at = -1
	}
	return s.at >= 0
}

func (s *seen) seek(t *testing.T, key string) {
	t.Helper()
	if errno := s.ask(); errno != api.OK {
		wantSeek(t, s.v, key, false, errno)
		return
	}
	at, _ := s.find(key)
	wantSeek(t, s.v, key, s.place(at), api.OK)
}

// stand is what Next, Prev and Here answer ahead of all else.
func (s *seen) stand() api.Errno {
	if errno := s.ask(); errno != api.OK {
		return errno
	}
	if s.at < 0 {
		return api.ErrViewPlace
	}
	return api.OK
}

func (s *seen) next(t *testing.T) {
	t.Helper()
	if errno := s.stand(); errno != api.OK {
		wantNext(t, s.v, false, errno)
		return
	}
	wantNext(t, s.v, s.place(s.at+1), api.OK)
}

func (s *seen) prev(t *testing.T) {
	t.Helper()
	if errno := s.stand(); errno != api.OK {
		wantPrev(t, s.v, false, errno)
		return
	}
	wantPrev(t, s.v, s.place(s.at-1), api.OK)
}

func (s *seen) here(t *testing.T) {
	t.Helper()
	if errno := s.stand(); errno != api.OK {
		wantNowhere(t, s.v, errno)
		return
	}
	wantHere(t, s.v, s.pairs[s.at].Key, s.pairs[s.at].Value)
}

func (s *seen) close(t *testing.T) {
	t.Helper()
	errno := s.ask()
	wantErrno(t, "Close", s.v.Close(), errno)
	s.closed = s.closed || errno == api.OK
}

// goOver goes over some pairs, and does this and that at some of them.
func (s *seen) goOver(t *testing.T, from, to string, falls bool, do func()) {
	t.Helper()
	loop, want := s.v.Up(from, to), within(s.pairs, from, to)
	if falls {
		loop, want = s.v.Down(from, to), turned(want)
	}
	for range 1 + s.w.r.Intn(2) {
		n, stops := 0, false
		for key, value := range loop {
			if errno := s.ask(); errno != api.OK {
				t.Fatalf("a pair is given, though a call would answer %d", errno)
			}
			if n == len(want) || want[n] != (api.Pair{Key: key, Value: value}) {
				t.Fatalf("%q %q is given behind %d of %v", key, value, n, want)
			}
			n++
			do()
			if stops = s.w.r.Intn(20) == 0; stops {
				break
			}
		}
		if !stops && s.ask() == api.OK && n < len(want) {
			t.Fatalf("a loop ends behind %d of %v", n, want)
		}
	}
}

// style is how keys and values are drawn.
type style struct {
	keys  func(r *rand.Rand) string
	value int // the most bytes of one
}

// styles: few short keys; long ones that have much in common, with values that fill leaves; any bytes.
func styles() []style {
	return []style{
		{func(r *rand.Rand) string { return string([]byte{byte('a' + r.Intn(12))}) }, 9},
		{func(r *rand.Rand) string { return far(r.Intn(60)) }, 200},
		{func(r *rand.Rand) string { return far(r.Intn(300))[r.Intn(36):] }, 100},
		{func(r *rand.Rand) string {
			b := make([]byte, 1+r.Intn(3))
			for i := range b {
				b[i] = []byte{0, 1, 'a', 128, 255}[r.Intn(5)]
			}
			return string(b)
		}, 30},
	}
}

// text is a key, a part of one, one that goes on, or nothing.
func (s style) text(r *rand.Rand) string {
	key := s.keys(r)
	switch r.Intn(6) {
	case 0:
		return ""
	case 1:
		return key[:r.Intn(len(key))]
	case 2:
		return key + strings.Repeat("\x00", 1+r.Intn(40))
	}
	return key
}
