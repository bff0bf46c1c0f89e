package check_test

import (
	"runtime"
	"slices"
	"strings"
	"sync"
	"testing"
	"time"
	"unsafe"
	"weak"

	"latchkey/api"
	"latchkey/check"
)

// faulty is an image in which much is found.
func faulty() []string {
	return high().with(3, inner(long("d")+" "+long("g")+" "+long("j"), 5, 2, 9, 13)).with(5, leaf("z")).with(11, api3()).image(14, 2)
}

// faults is what is found there.
func faults() []api.Finding {
	return found(2, 13, 3, 2, 3, 9, 4, 11, 5, 5, 5, 9)
}

// R2: the list that is handed in is not written into, nor its spare room; the same list again gives the same.
func TestListIsNotWritten(t *testing.T) {
	for _, l := range [][]string{faulty(), high().image(13, 2), slices.Repeat([]string{noughts}, 9), faulty()[:7], nil} {
		room := append(slices.Clone(l), "spare", "room", "s")
		was := slices.Clone(room)
		handed := room[:len(l):len(room)]
		first, errno := check.Image(handed)
		a, b, c, e := check.Tally(handed)
		for range 5 {
			again, errnoToo := check.Image(handed)
			if !slices.Equal(first, again) || errno != errnoToo {
				t.Fatalf("Image: %v, %d, and then %v, %d", first, errno, again, errnoToo)
			}
			if a2, b2, c2, e2 := check.Tally(handed); a != a2 || b != b2 || c != c2 || e != e2 {
				t.Fatalf("Tally: %d, %d, %d, %d, and then %d, %d, %d, %d", a, b, c, e, a2, b2, c2, e2)
			}
		}
		if !slices.Equal(room, was) {
			t.Fatal("the list was written into")
		}
	}
}

// R2: what is written into a list behind a call, or into an answer, changes nothing.
func TestWrittenOver(t *testing.T) {
	l := faulty()
	first, _ := check.Image(l)
	for n := range l {
		l[n] = noughts
	}
	if !slices.Equal(first, faults()) {
		t.Fatalf("findings: %v", first)
	}
	wantFound(t, "the list, written over", l, api.FindSuper, 0)
	second, _ := check.Image(faulty())
	whole := first[:cap(first)]
	for n := range whole {
		whole[n] = api.Finding{Kind: -1, Page: -1}
	}
	if !slices.Equal(second, faults()) {
		t.Fatalf("findings: %v", second)
	}
	third, errno := check.Image(faulty())
	if !slices.Equal(third, faults()) || errno != api.OK {
		t.Fatalf("findings: %v, %d", third, errno)
	}
}

// Texts that are handed in are not kept.
func TestTextIsNotKept(t *testing.T) {
	var kept []weak.Pointer[byte]
	var answers [][]api.Finding
	func() {
		for _, l := range [][]string{faulty(), high().image(13, 2)} {
			for n := range l {
				l[n] = strings.Clone(l[n])
				kept = append(kept, weak.Make(unsafe.StringData(l[n])))
			}
			found, _ := check.Image(l)
			check.Tally(l)
			answers = append(answers, found)
		}
	}()
	for i, w := range kept {
		for n := 0; w.Value() != nil; n++ {
			if runtime.GC(); n == 10 {
				t.Fatalf("the text %d is kept", i)
			}
		}
	}
	if !slices.Equal(answers[0], faults()) || len(answers[1]) != 0 {
		t.Fatalf("findings: %v", answers)
	}
}

// R2: one list, handed to several calls at the same time, and other lists beside it.
func TestAtTheSameTime(t *testing.T) {
	l, right := faulty(), remote(t, 300, 120).d.Blocks()
	a, _ := accountOf(right)
	var all sync.WaitGroup
	for range 16 {
		all.Go(func() {
			for range 30 {
				if got, errno := check.Image(l); !slices.Equal(got, faults()) || errno != api.OK {
					t.Errorf("Image: %v, %d", got, errno)
				}
				wantFound(t, "a tree", right)
				wantTally(t, "a tree", right, a.through, len(right)-2-a.through, 120)
				wantNoTally(t, "what has findings", l)
			}
		})
	}
	all.Wait()
}

// Goroutines have ended when a call answers.
func TestGoroutinesEnd(t *testing.T) {
	l := remote(t, 2000, 1200).d.Blocks()
	ahead := runtime.NumGoroutine()
	for range 5 {
		check.Image(l)
		check.Tally(l)
		for n := 0; runtime.NumGoroutine() > ahead; n++ { // the last steps of one that is done with its work may be under way
			if time.Sleep(time.Millisecond); n == 1000 {
				t.Fatalf("%d goroutines, ahead of the calls %d", runtime.NumGoroutine(), ahead)
			}
		}
	}
}

// The order in which goroutines run is not seen.
func TestSameEachTime(t *testing.T) {
	p := chain(600, func(n int) []int {
		if 20*n > 600 {
			return nil
		}
		l := []int{}
		for i := range 20 {
			l = append(l, 2+(20*n+7*i)%598)
		}
		return l
	})
	l := p.image(600, 2)
	for n := 0; n < 600; n += 9 {
		l[n+2] = noughts
	}
	l[2] = p.image(600, 2)[2]
	a, _ := accountOf(l)
	for range 100 {
		if got, _ := check.Image(l); !slices.Equal(got, a.told()) {
			t.Fatalf("findings: %v, want %v", got, a.told())
		}
	}
}
