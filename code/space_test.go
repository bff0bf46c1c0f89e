package code_test

import (
	"fmt"
	"math/rand"
	"testing"

	"latchkey/api"
	"latchkey/check"
	"latchkey/client"
	"latchkey/code"
	"latchkey/disk"
	"latchkey/grant"
	"latchkey/table"
	"latchkey/trail"
)

// crowd is a table on a disk of just Room(families, generations) blocks, on which all records are as great as they may be.
type crowd struct {
	t                     *testing.T
	r                     *rand.Rand
	d                     *disk.Disk
	x                     *table.Table
	families, generations int
	secrets               int
	codes                 []string // that may be redeemed, with their clients
	clients               []string
	tokens                []string
}

func newCrowd(t *testing.T, families, generations, seed int) *crowd {
	t.Helper()
	d, errno := disk.New(grant.Room(families, generations))
	wantErrno(t, "New", errno, api.OK)
	wantErrno(t, "Format", table.Format(d), api.OK)
	c := &crowd{t: t, r: rand.New(rand.NewSource(int64(seed))), d: d, x: opened(t, d), families: families, generations: generations}
	for n := range 8 {
		k := greatest(fmt.Sprint("c", n))
		k.Hash, k.Old, k.Until = "", "", 0
		c.does("Register", client.Register(c.x, k, many(64, "p"), 100))
		c.does("Renew", client.Renew(c.x, k.Name, many(64, "q"), most, 100))
	}
	for n := range 4 {
		wantErrno(t, "PutKey", c.x.PutKey(api.Key{Number: n + 1, Secret: c.secret(), From: 100, Until: lastTime}), api.OK)
		_, errno := trail.Note(c.x, api.EventKey, 0, "")
		wantErrno(t, "Note", errno, api.OK)
		c.does("Commit", c.x.Commit())
	}
	return c
}

// does is that something is done, with room enough, and that nothing leaks.
func (c *crowd) does(what string, errno api.Errno, others ...api.Errno) bool {
	c.t.Helper()
	for _, other := range others {
		if errno == other {
			return false
		}
	}
	if errno != api.OK {
		c.t.Fatalf("%d families of %d generations: %s: %d", c.families, c.generations, what, errno)
	}
	pages := len(c.x.Pager().Reached())
	if pages+c.x.Pager().Free() != c.d.Size()-2 || 2*pages > c.d.Size()-2 {
		c.t.Fatalf("%s: %d pages are reached, %d free", what, pages, c.x.Pager().Free())
	}
	return true
}

func (c *crowd) secret() string {
	c.secrets++
	return secret(c.secrets)
}

func (c *crowd) name() string { return greatest(fmt.Sprint("c", c.r.Intn(8))).Name }

func (c *crowd) subject() string { return fmt.Sprintf("subject-%08d", c.r.Intn(1+c.families)) }

func (c *crowd) ids() []int {
	l, errno := c.x.Ending(most, most)
	wantErrno(c.t, "Ending", errno, api.OK)
	return l
}

// sweep takes families away, with the codes of which they came, as layer 22 will.
func (c *crowd) sweep() {
	c.t.Helper()
	for n, id := range c.ids() {
		if n >= 16 || c.r.Intn(3) == 0 {
			continue
		}
		f, errno := c.x.Family(id)
		wantErrno(c.t, "Family", errno, api.OK)
		wantErrno(c.t, "Remove", c.x.Remove(id), api.OK)
		wantErrno(c.t, "RemoveCode", c.x.RemoveCode(f.Code), api.OK)
		_, errno = trail.Note(c.x, api.EventSweep, id, f.Client)
		wantErrno(c.t, "Note", errno, api.OK)
	}
	c.does("Commit", c.x.Commit())
}

// redeem shows a code, also one that was shown already.
func (c *crowd) redeem(now int) {
	c.t.Helper()
	if len(c.codes) == 0 {
		return
	}
	n := c.r.Intn(len(c.codes))
	a, errno := code.Redeem(c.x, c.clients[n], c.codes[n], v, now, c.secret())
	if c.does("Redeem", errno, api.ErrCodeToken, api.ErrGrantMany) {
		c.tokens = append(c.tokens, a.Token)
	}
}

// rotate shows the current token of a family that may have one generation more.
func (c *crowd) rotate(now int) {
	c.t.Helper()
	if len(c.tokens) == 0 {
		return
	}
	text := drawn(c.r, c.tokens...)
	a, errno := grant.Introspect(c.x, text, now)
	wantErrno(c.t, "Introspect", errno, api.OK)
	if !a.Active || a.Gen >= c.generations {
		return
	}
	next, errno := grant.Rotate(c.x, a.Client, text, nil, now, c.secret())
	if c.does("Rotate", errno) {
		c.tokens = append(c.tokens, next.Token)
	}
}

func (c *crowd) approve(now int) {
	c.t.Helper()
	name := c.name()
	text, errno := code.Approve(c.x, name, c.subject(), eight(), challengeOf(v), drawn(c.r, 50, most, 0, 5), now, c.secret())
	if c.does("Approve", errno, api.ErrCodeMany) {
		c.codes, c.clients = append(c.codes, text), append(c.clients, name)
	}
}

// G8, P7: on a disk of Room(F, T) blocks there is always room for codes and what comes of them, as long as there are at most F families of at most T generations.
func TestRoomIsEnough(t *testing.T) {
	t.Parallel()
	for n, size := range [][2]int{{0, 0}, {1, 1}, {1, 30}, {4, 10}, {7, 1}, {30, 1}, {30, 3}} {
		t.Run(fmt.Sprint(size), func(t *testing.T) {
			t.Parallel()
			c := newCrowd(t, size[0], size[1], n)
			for step := range 400 {
				now := 100 + step
				switch n := c.r.Intn(100); {
				case n < 30:
					c.approve(now)
				case n < 60 && len(c.ids()) < c.families:
					c.redeem(now)
				case n < 90:
					c.rotate(now)
				case n < 93:
					c.sweep()
				default:
					c.x = opened(t, c.d)
				}
			}
			findings, errno := check.Image(c.d.Blocks())
			if len(findings) > 0 || errno != api.OK {
				t.Fatalf("%v, %d", findings, errno)
			}
			if families := len(c.tokens); families == 0 && size[0] > 0 {
				t.Fatal("the test is wrong: there was no family")
			}
		})
	}
}
