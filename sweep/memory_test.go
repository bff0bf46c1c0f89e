package sweep_test

import (
	"fmt"
	"runtime"
	"slices"
	"strings"
	"sync"
	"testing"
	"time"

	"latchkey/api"
	"latchkey/sweep"
)

// ours is how many goroutines there are, beside the one that asks, in which this layer's code runs.
func ours() int {
	stacks := make([]byte, 1<<20)
	stacks = stacks[:runtime.Stack(stacks, true)]
	count := 0
	for _, one := range strings.Split(string(stacks), "\n\n")[1:] {
		if strings.Contains(one, "latchkey/sweep.") {
			count++
		}
	}
	return count
}

// wantEnded is that no goroutine goes on behind a call; the last steps of one that is done with its work may be under way.
func wantEnded(t *testing.T, what string, ahead int) {
	t.Helper()
	for n := 0; runtime.NumGoroutine() > ahead || ours() > 0; n++ {
		if time.Sleep(time.Millisecond); n == 1000 {
			t.Fatalf("%s: %d goroutines, ahead of it %d", what, runtime.NumGoroutine(), ahead)
		}
	}
}

// R2: goroutines have ended when a call answers, whatever it answers.
func TestGoroutinesEnd(t *testing.T) {
	image := founded(t, 300, 1, 0, three()...)
	for n := range 40 {
		image.quick(issue("app", fmt.Sprint("s", n/4), nil, 100, secret(n)))
	}
	for n := range 8 {
		image.quick(approve("app", "ann", nil, ofV, 10, 100, secret(100+n)))
	}
	image.look("forty families")
	dead, doubt, full, worn := image.twin(t), image.twin(t), faulty(t, fault{events: 99, full: true}), faulty(t, fault{events: 0})
	kill(t, dead.d)
	kill(t, doubt.d)
	due(0, 0).do(doubt.x)
	wantErrno(t, "Crash", doubt.d.Crash(nil), api.OK)
	ahead := runtime.NumGoroutine()
	for n, b := range []*both{image, dead, doubt, full, worn} {
		for _, c := range []call{
			due(0, 100), due(0, 150), due(most, 150), run(0, 0, 150), run(0, 17, 150), run(most, 16, 150), run(0, 1, 150), run(0, 16, 150), run(0, 16, 150), due(0, 150), run(0, 16, 150), run(0, 16, 150),
		} {
			c.do(b.x)
			wantEnded(t, fmt.Sprint(n, ": ", c.what), ahead)
		}
	}
	dying := founded(t, 64, 1, 0, three()...)
	dying.issued("ann", 100, 1)
	for act := 1; act < 5; act++ {
		b := dying.twin(t)
		wantErrno(t, "Arm", b.d.Arm(act), api.OK)
		if _, errno := sweep.Run(b.x, 0, 16, 150); errno != api.ErrDead {
			t.Fatalf("act %d: %d", act, errno)
		}
		wantEnded(t, "a sweep that dies", ahead)
	}
}

// R2: what is due comes in the same order each time, however goroutines run.
func TestSameEachTime(t *testing.T) {
	image := founded(t, 300, 1, 0, three()...)
	for n := range 30 {
		image.quick(issue("app", fmt.Sprint("s", n/4), nil, 100+n%7, secret(n)))
	}
	image.look("thirty families")
	var blocks []string
	for range 40 {
		b := image.twin(t)
		for range 3 {
			wantErrno(t, "Run", run(0, 11, 170).do(b.x).errno, api.OK)
		}
		if blocks == nil {
			blocks = b.d.Blocks()
		}
		if !slices.Equal(b.d.Blocks(), blocks) {
			t.Fatal("another disk")
		}
	}
}

// R2: two tables, by turns, know nothing of one another, also if the one is dead.
func TestTwoTables(t *testing.T) {
	one, two := newBoth(t), newBoth(t)
	one.issued("ann", 100, 1)
	two.issued("ann", 120, 1)
	one.run(0, 16, 150, api.Swept{Families: 1, Tokens: 1})
	two.due(0, 149, 0, 0)
	two.left(1)
	one.issued("ann", 150, 2)
	kill(t, one.d)
	one.wantRefused(run(0, 16, 300), api.ErrDead)
	two.run(0, 16, 170, api.Swept{Families: 1, Tokens: 1})
	one.wantRefused(due(0, 300), api.ErrDead)
	two.due(0, 300, 0, 0)
}

// blocksOfCalls is what the same calls leave on a disk.
func blocksOfCalls(t *testing.T) []string {
	b := newBoth(t)
	for n := range 12 {
		text := approve("app", fmt.Sprint("s", n%3), nil, ofV, 5, 100+9*n, secret(n)).do(b.x).text
		if n%2 == 0 {
			redeem("app", text, v, 101+9*n, secret(50+n)).do(b.x)
		}
		due(3, 101+9*n).do(b.x)
		run(3, 1+n%2, 102+9*n).do(b.x)
	}
	return b.d.Blocks()
}

// R2: several tables at the same time.
func TestAtTheSameTime(t *testing.T) {
	want := blocksOfCalls(t)
	var group sync.WaitGroup
	for range 16 {
		group.Go(func() {
			if !slices.Equal(blocksOfCalls(t), want) {
				t.Error("other blocks have come of the same calls")
			}
		})
	}
	group.Wait()
}
