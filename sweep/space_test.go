package sweep_test

import (
	"fmt"
	"math/rand"
	"slices"
	"testing"

	"latchkey/api"
	"latchkey/check"
	"latchkey/client"
	"latchkey/code"
	"latchkey/disk"
	"latchkey/grant"
	"latchkey/sweep"
	"latchkey/table"
	"latchkey/trail"
	"latchkey/view"
)

// crowd is a table on a disk of just Room(families, generations) blocks, on which all records are as great as they may be.
type crowd struct {
	t                     *testing.T
	r                     *rand.Rand
	d                     *disk.Disk
	x                     *table.Table
	families, generations int
	secrets               int
	codes                 []string // that may be redeemed, with their clients
	clients               []string
	tokens                []string
	swept                 int
}

func newCrowd(t *testing.T, families, generations, seed int) *crowd {
	t.Helper()
	d, errno := disk.New(grant.Room(families, generations))
	wantErrno(t, "New", errno, api.OK)
	wantErrno(t, "Format", table.Format(d), api.OK)
	c := &crowd{t: t, r: rand.New(rand.NewSource(int64(seed))), d: d, x: opened(t, d), families: families, generations: generations}
	for n := range 8 {
		k := greatest(fmt.Sprint("c", n))
		k.Hash, k.Old, k.Until = "", "", 0
		c.does("Register", client.Register(c.x, k, many(64, "p"), 100))
		c.does("Renew", client.Renew(c.x, k.Name, many(64, "q"), most, 100))
	}
	for n := range 4 {
		wantErrno(t, "PutKey", c.x.PutKey(api.Key{Number: n + 1, Secret: c.secret(), From: 100, Until: lastTime}), api.OK)
		_, errno := trail.Note(c.x, api.EventKey, 0, "")
		wantErrno(t, "Note", errno, api.OK)
		c.does("Commit", c.x.Commit())
	}
	return c
}

// does is that something is done, with room enough, and that nothing leaks.
func (c *crowd) does(what string, errno api.Errno, others ...api.Errno) bool {
	c.t.Helper()
	if slices.Contains(others, errno) {
		return false
	}
	if errno != api.OK {
		c.t.Fatalf("%d families of %d generations: %s: %d", c.families, c.generations, what, errno)
	}
	pages := len(c.x.Pager().Reached())
	if pages+c.x.Pager().Free() != c.d.Size()-2 || 2*pages > c.d.Size()-2 {
		c.t.Fatalf("%s: %d pages are reached, %d free", what, pages, c.x.Pager().Free())
	}
	return true
}

func (c *crowd) secret() string {
	c.secrets++
	return secret(c.secrets)
}

func (c *crowd) name() string { return greatest(fmt.Sprint("c", c.r.Intn(8))).Name }

func (c *crowd) subject() string { return fmt.Sprintf("subject-%08d", c.r.Intn(1+c.families)) }

func (c *crowd) ids() []int {
	l, errno := c.x.Ending(most, most)
	wantErrno(c.t, "Ending", errno, api.OK)
	return l
}

// sweep takes away what has ended.
func (c *crowd) sweep(now int) {
	c.t.Helper()
	n, m, errno := sweep.Due(c.x, 3, now)
	c.does("Due", errno)
	s, errno := sweep.Run(c.x, 3, 16, now)
	c.does("Run", errno)
	if s.Families != min(n, 16) || s.Codes < m {
		c.t.Fatalf("%+v, of %d families and %d codes", s, n, m)
	}
	c.swept += s.Families
}

func (c *crowd) approve(now int) {
	c.t.Helper()
	name := c.name()
	text, errno := code.Approve(c.x, name, c.subject(), eight(), ofV, drawn(c.r, 50, most, 0, 5), now, c.secret())
	if c.does("Approve", errno, api.ErrCodeMany) {
		c.codes, c.clients = append(c.codes, text), append(c.clients, name)
	}
}

// redeem shows a code, also one that was shown already.
func (c *crowd) redeem(now int) {
	c.t.Helper()
	if len(c.codes) == 0 {
		return
	}
	n := c.r.Intn(len(c.codes))
	a, errno := code.Redeem(c.x, c.clients[n], c.codes[n], v, now, c.secret())
	if c.does("Redeem", errno, api.ErrCodeToken, api.ErrGrantMany) {
		c.tokens = append(c.tokens, a.Token)
	}
}

// rotate shows the current token of a family that may have one generation more.
func (c *crowd) rotate(now int) {
	c.t.Helper()
	if len(c.tokens) == 0 {
		return
	}
	text := drawn(c.r, c.tokens...)
	a, errno := grant.Introspect(c.x, text, now)
	wantErrno(c.t, "Introspect", errno, api.OK)
	if !a.Active || a.Gen >= c.generations {
		return
	}
	next, errno := grant.Rotate(c.x, a.Client, text, nil, now, c.secret())
	if c.does("Rotate", errno) {
		c.tokens = append(c.tokens, next.Token)
	}
}

// P7: on a disk of Room(F, T) blocks there is always room for a sweep, and behind it, as long as there are at most F families of at most T generations.
func TestRoomIsEnough(t *testing.T) {
	t.Parallel()
	for n, size := range [][2]int{{0, 0}, {1, 1}, {1, 30}, {4, 10}, {7, 1}, {30, 1}, {30, 3}} {
		t.Run(fmt.Sprint(size), func(t *testing.T) {
			t.Parallel()
			c := newCrowd(t, size[0], size[1], n)
			for step := range 500 {
				now := 100 + step
				switch n := c.r.Intn(100); {
				case n < 30:
					c.approve(now)
				case n < 55 && len(c.ids()) < c.families:
					c.redeem(now)
				case n < 85:
					c.rotate(now)
				case n < 90:
					_, errno := grant.RevokeAll(c.x, c.subject(), now)
					c.does("RevokeAll", errno)
				case n < 97:
					c.sweep(now)
				default:
					c.x = opened(t, c.d)
				}
			}
			findings, errno := check.Image(c.d.Blocks())
			if len(findings) > 0 || errno != api.OK {
				t.Fatalf("%v, %d", findings, errno)
			}
			if c.swept == 0 && size[0] > 0 {
				t.Fatal("the test is wrong: nothing was swept")
			}
		})
	}
}

// P8: behind sweeps of all that there was as many pages are free as ahead of it: nothing leaks.
func TestNothingLeaks(t *testing.T) {
	b := founded(t, 400, 1, 0, three()...)
	for n := range 33 { // as many events as are kept, each as great as a sweep's
		wantErrno(t, "Switch", b.quick(turn("off", n%2 > 0, 100)).errno, api.OK)
	}
	pages := func() int { return len(b.x.Pager().Reached()) }
	ahead := pages()
	for n := range 40 {
		wantErrno(t, "Issue", b.quick(issue("app", fmt.Sprint("s", n/4), nil, 100, secret(n))).errno, api.OK)
	}
	if pages() < ahead+10 {
		t.Fatal("the test is wrong")
	}
	for range 3 {
		wantErrno(t, "Run", b.quick(run(0, 16, 150)).errno, api.OK)
	}
	b.left()
	b.look("swept")
	if p := b.x.Pager(); pages() > ahead+2 || p.Free()+pages() != p.Size()-2 {
		t.Fatalf("%d pages are reached, ahead %d", pages(), ahead)
	}
}

// P10: a view tells what was committed when it was taken, whatever is swept then.
func TestViews(t *testing.T) {
	b := newBoth(t)
	b.redeemed("ann", 30, 100, 1)
	b.issued("bob", 100, 2)
	b.approved("eve", 10, 100, 3)
	pairs := func(s *view.View) []api.Pair {
		var l []api.Pair
		for key, value := range s.Up("", "") {
			l = append(l, api.Pair{Key: key, Value: value})
		}
		return l
	}
	old, errno := view.Take(b.x.Pager())
	wantErrno(t, "Take", errno, api.OK)
	was := pairs(old)
	for range 2 {
		b.want(run(0, 1, 150), api.OK)
		now, errno := view.Take(b.x.Pager())
		wantErrno(t, "Take", errno, api.OK)
		if len(was) == 0 || !slices.Equal(pairs(old), was) || len(pairs(now)) >= len(was) {
			t.Fatalf("%d pairs, now %d", len(pairs(old)), len(pairs(now)))
		}
		wantErrno(t, "Close", now.Close(), api.OK)
	}
	wantErrno(t, "Close", old.Close(), api.OK)
	b.left()
	b.codes()
}
