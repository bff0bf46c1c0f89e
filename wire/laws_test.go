package wire_test

import (
	"math/rand"
	"slices"
	"testing"

	"latchkey/api"
	"latchkey/wire"
)

// someText is some messages, as they are printed or otherwise, one behind the other.
func someText(r *rand.Rand) string {
	s := ""
	for range 1 + r.Intn(3) {
		m := someMessage(r)
		s += loose(r, m.Method+" "+m.Path+" HTTP/1.1", m.Headers, m.Body)
	}
	return s
}

// printAll prints messages, one behind the other.
func printAll(t *testing.T, l []api.Message) string {
	t.Helper()
	s := ""
	for _, m := range l {
		one, errno := wire.PrintMessage(m)
		if errno != api.OK {
			t.Fatalf("PrintMessage(%q) = %d", m, errno)
		}
		s += one
	}
	return s
}

// fed is all that a new reader tells of pieces: the messages, and the first error.
func fed(t *testing.T, pieces []string) (l []api.Message, errno api.Errno) {
	t.Helper()
	r := wire.NewReader()
	for _, piece := range pieces {
		more, e := r.Feed(piece)
		switch {
		case errno == api.OK:
			l, errno = append(l, more...), e
		case e != api.ErrWireOver || len(more) != 0:
			t.Fatalf("Feed(%q) behind an error = %q, %d", piece, more, e)
		}
	}
	return l, errno
}

// cut cuts a text, with empty pieces.
func cut(r *rand.Rand, s string) []string {
	var pieces []string
	at := 0
	for _, to := range append(someCuts(r, s), len(s)) {
		pieces = append(pieces, s[at:to])
		at = to
		if r.Intn(4) == 0 {
			pieces = append(pieces, "")
		}
	}
	return pieces
}

func TestCutsDoNotMatter(t *testing.T) {
	r := rand.New(rand.NewSource(57))
	for range 3000 {
		s := someText(r)
		if r.Intn(3) > 0 {
			for range 1 + r.Intn(2) {
				s = spoil(r, s)
			}
		}
		wantRead(t, r, s)
		l, errno := fed(t, []string{s})
		for range 3 {
			if other, e := fed(t, cut(r, s)); e != errno || !slices.EqualFunc(l, other, sameMessage) {
				t.Fatalf("%q: %q, %d, and in pieces %q, %d", s, l, errno, other, e)
			}
		}
	}
}

func TestCutsOfAnyBytesDoNotMatter(t *testing.T) {
	r := rand.New(rand.NewSource(58))
	for range 5000 {
		s := from(r, "\r\nA /:", r.Intn(30))
		switch r.Intn(3) {
		case 0:
			s = from(r, between(0, 255), r.Intn(1200))
		case 1:
			s = get + from(r, "\r\na:1 ", r.Intn(40))
		}
		wantRead(t, r, s)
		wantParsed(t, s)
	}
}

func TestWhatIsPrintedIsRead(t *testing.T) {
	r := rand.New(rand.NewSource(59))
	for range 3000 {
		l := make([]api.Message, r.Intn(4))
		for n := range l {
			l[n] = someMessage(r)
		}
		s := printAll(t, l)
		if got, errno := fed(t, cut(r, s)); errno != api.OK || !slices.EqualFunc(got, l, sameMessage) {
			t.Fatalf("%q was read as %q, %d", s, got, errno)
		}
		reader := wire.NewReader()
		if got, errno := reader.Feed(s); errno != api.OK || !slices.EqualFunc(got, l, sameMessage) || reader.Waiting() != 0 {
			t.Fatalf("%q was read as %q, %d; Waiting %d", s, got, errno, reader.Waiting())
		}
	}
}

func TestWhatIsReadIsPrintedAgain(t *testing.T) {
	r := rand.New(rand.NewSource(60))
	for range 2000 {
		l, errno := fed(t, []string{someText(r)})
		if errno != api.OK {
			t.Fatalf("not read: %d", errno)
		}
		again, errno := fed(t, []string{printAll(t, l)})
		if errno != api.OK || !slices.EqualFunc(again, l, sameMessage) {
			t.Fatalf("%q became %q, %d", l, again, errno)
		}
	}
}

func TestABeginningIsNoMessageYet(t *testing.T) {
	r := rand.New(rand.NewSource(61))
	for range 200 {
		s := printAll(t, []api.Message{someMessage(r)})
		reader := wire.NewReader()
		for n := range len(s) - 1 {
			l, errno := reader.Feed(s[n : n+1])
			if len(l) != 0 || errno != api.OK || reader.Waiting() != n+1 {
				t.Fatalf("byte %d of %q: %q, %d, Waiting %d", n, s, l, errno, reader.Waiting())
			}
		}
	}
}

func TestPrintedAnswersAreRead(t *testing.T) {
	r := rand.New(rand.NewSource(62))
	for range 3000 {
		a := someAnswer(r)
		s, errno := wire.PrintAnswer(a)
		if errno != api.OK {
			t.Fatalf("PrintAnswer(%#v) = %d", a, errno)
		}
		more := from(r, between(0, 255), r.Intn(10))
		got, rest, errno := wire.ParseAnswer(s + more)
		if errno != api.OK || rest != more || !sameAnswer(got, a) {
			t.Fatalf("ParseAnswer(%q) = %#v, %q, %d, want %#v, %q", s+more, got, rest, errno, a, more)
		}
		for range 10 {
			wantRefused(t, s[:r.Intn(len(s))], api.ErrWireShort)
		}
	}
}
