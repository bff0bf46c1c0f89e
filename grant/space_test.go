package grant_test

import (
	"fmt"
	"math/rand"
	"testing"

	"latchkey/api"
	"latchkey/check"
	"latchkey/client"
	"latchkey/disk"
	"latchkey/grant"
	"latchkey/table"
	"latchkey/trail"
)

// crowd is a table on a disk of just Room(families, generations) blocks, on which all records are as great as they may be.
type crowd struct {
	t                     *testing.T
	r                     *rand.Rand
	d                     *disk.Disk
	x                     *table.Table
	families, generations int
	secrets               int
	pages                 int      // the most that were reached
	texts                 []string // that were told
}

func newCrowd(t *testing.T, families, generations, seed int) *crowd {
	t.Helper()
	d, errno := disk.New(grant.Room(families, generations))
	wantErrno(t, "New", errno, api.OK)
	wantErrno(t, "Format", table.Format(d), api.OK)
	return &crowd{t: t, r: rand.New(rand.NewSource(int64(seed))), d: d, x: opened(t, d), families: families, generations: generations}
}

// does is that something is done, with room enough, and that nothing leaks.
func (c *crowd) does(what string, errno api.Errno, others ...api.Errno) bool {
	c.t.Helper()
	for _, other := range others {
		if errno == other {
			return false
		}
	}
	if errno != api.OK {
		c.t.Fatalf("%d families of %d generations: %s: %d", c.families, c.generations, what, errno)
	}
	pages := len(c.x.Pager().Reached())
	if c.pages = max(c.pages, pages); pages+c.x.Pager().Free() != c.d.Size()-2 || 2*pages > c.d.Size()-2 {
		c.t.Fatalf("%s: %d pages are reached, %d free", what, pages, c.x.Pager().Free())
	}
	return true
}

func (c *crowd) secret() string {
	c.secrets++
	return secret(c.secrets)
}

func (c *crowd) name() string { return greatest(fmt.Sprint("c", c.r.Intn(8))).Name }

// subject is one of so many that four families of each are enough.
func (c *crowd) subject() string { return fmt.Sprintf("subject-%08d", c.r.Intn(1+c.families)) }

// fill registers eight clients and lays down keys and codes.
func (c *crowd) fill() {
	c.t.Helper()
	for n := range 8 {
		k := greatest(fmt.Sprint("c", n))
		k.Hash, k.Old, k.Until = "", "", 0
		c.does("Register", client.Register(c.x, k, many(64, "p"), 100))
		c.does("Renew", client.Renew(c.x, k.Name, many(64, "q"), most, 100))
	}
	for n := range 4 {
		c.x.PutKey(api.Key{Number: n + 1, Secret: c.secret(), From: 100, Until: lastTime})
		c.note(api.EventKey, 0, "")
	}
	for range 8 {
		c.code(api.CodeFresh, 0, c.newID())
		c.note(api.EventCode, 0, c.name())
	}
}

func (c *crowd) newID() int {
	id, errno := c.x.ID()
	wantErrno(c.t, "ID", errno, api.OK)
	return id
}

// code lays down one as great as may be.
func (c *crowd) code(state, family, id int) {
	c.t.Helper()
	wantErrno(c.t, "PutCode", c.x.PutCode(api.Code{
		ID: id, Client: c.name(), Subject: "subject-00000000", Scope: eight(), Hash: digestOf("a"), Challenge: digestOf("b"), Until: lastTime, State: state, Family: family,
	}), api.OK)
}

// note notes an event, and commits what was begun, as the layers above will.
func (c *crowd) note(kind, family int, who string) {
	c.t.Helper()
	_, errno := trail.Note(c.x, kind, family, who)
	wantErrno(c.t, "Note", errno, api.OK)
	c.does("Commit", c.x.Commit())
}

func (c *crowd) ids() []int {
	l, errno := c.x.Ending(most, most)
	wantErrno(c.t, "Ending", errno, api.OK)
	return l
}

// redeem begins a family of a code.
func (c *crowd) redeem() {
	c.t.Helper()
	id := c.newID()
	a, errno := grant.Begin(c.x, c.name(), c.subject(), nil, id, c.secret())
	if !c.does("Begin", errno, api.ErrGrantMany, api.ErrClientOff) {
		c.x.Abort()
		return
	}
	c.code(api.CodeSpent, a.Family, id)
	c.does("Commit", c.x.Commit())
	c.texts = append(c.texts, a.Token)
}

// sweep takes families away, with their codes, as many as may be in one commit.
func (c *crowd) sweep() {
	c.t.Helper()
	for n, id := range c.ids() {
		if n >= 16 || c.r.Intn(3) == 0 {
			continue
		}
		f, errno := c.x.Family(id)
		wantErrno(c.t, "Family", errno, api.OK)
		wantErrno(c.t, "Remove", c.x.Remove(id), api.OK)
		if f.Code != 0 {
			wantErrno(c.t, "RemoveCode", c.x.RemoveCode(f.Code), api.OK)
		}
		_, errno = trail.Note(c.x, api.EventSweep, id, f.Client)
		wantErrno(c.t, "Note", errno, api.OK)
	}
	c.does("Commit", c.x.Commit())
}

// rotate shows the current token of a family that may have one generation more.
func (c *crowd) rotate(now int) {
	c.t.Helper()
	if len(c.texts) == 0 {
		return
	}
	text := drawn(c.r, c.texts...)
	a, errno := grant.Introspect(c.x, text, now)
	wantErrno(c.t, "Introspect", errno, api.OK)
	if !a.Active || a.Gen >= c.generations {
		return
	}
	next, errno := grant.Rotate(c.x, a.Client, text, nil, now, c.secret())
	if c.does("Rotate", errno) {
		c.texts = append(c.texts, next.Token)
	}
}

// step is one call of the layers 19 to 23, or what one of these will do.
func (c *crowd) step(now int) {
	c.t.Helper()
	n := c.r.Intn(100)
	if len(c.ids()) >= c.families && n < 25 { // there may be no more
		n = 25
	}
	switch {
	case n < 12:
		c.redeem()
	case n < 25:
		a, errno := grant.Issue(c.x, c.name(), c.subject(), nil, now, c.secret())
		if c.does("Issue", errno, api.ErrGrantMany, api.ErrClientOff) {
			c.texts = append(c.texts, a.Token)
		}
	case n < 80:
		c.rotate(now)
	case n < 84 && len(c.texts) > 0:
		text := drawn(c.r, c.texts...)
		a, _ := grant.Introspect(c.x, text, now)
		if a.Active {
			c.does("Revoke", grant.Revoke(c.x, a.Client, text, now))
		}
	case n < 86:
		_, errno := grant.RevokeAll(c.x, c.subject(), now)
		c.does("RevokeAll", errno)
	case n < 88:
		c.sweep()
	case n < 94:
		c.does("Switch", client.Switch(c.x, c.name(), c.r.Intn(4) == 0, now))
	case n < 98:
		c.does("Renew", client.Renew(c.x, c.name(), many(64, drawn(c.r, "p", "q")), most, now))
	default:
		c.x = opened(c.t, c.d)
	}
}

// G8, P7: on a disk of Room(F, T) blocks there is always room, as long as there are at most F families of at most T generations.
func TestRoomIsEnough(t *testing.T) {
	t.Parallel()
	for n, size := range [][2]int{{0, 0}, {0, 5}, {1, 1}, {1, 40}, {2, 3}, {4, 10}, {7, 1}, {12, 4}, {30, 1}, {30, 3}, {60, 1}} {
		t.Run(fmt.Sprint(size), func(t *testing.T) {
			t.Parallel()
			c := newCrowd(t, size[0], size[1], n)
			c.fill()
			for step := range 500 {
				c.step(100 + step)
			}
			findings, errno := check.Image(c.d.Blocks())
			if len(findings) > 0 || errno != api.OK {
				t.Fatalf("%v, %d", findings, errno)
			}
			t.Logf("%d families of %d generations: %d of %d pages", size[0], size[1], c.pages, (c.d.Size()-2)/2)
		})
	}
}

// G8: all of them, as many and as great as there may be, and then all changed at once.
func TestRoomIsEnoughForAll(t *testing.T) {
	t.Parallel()
	for n, size := range [][2]int{{1, 1}, {3, 20}, {16, 4}, {40, 2}} {
		t.Run(fmt.Sprint(size), func(t *testing.T) {
			t.Parallel()
			c := newCrowd(t, size[0], size[1], 50+n)
			c.fill()
			for len(c.ids()) < c.families {
				c.redeem()
			}
			for range 20 * c.families * c.generations {
				c.rotate(200)
			}
			for n := range 1 + c.families {
				_, errno := grant.RevokeAll(c.x, fmt.Sprintf("subject-%08d", n), 300)
				c.does("RevokeAll", errno)
			}
			for range 3 {
				c.sweep()
			}
		})
	}
}

// G8: without so much room there is none at some time.
func TestLessRoomIsNotEnough(t *testing.T) {
	d, errno := disk.New(40)
	wantErrno(t, "New", errno, api.OK)
	wantErrno(t, "Format", table.Format(d), api.OK)
	x := opened(t, d)
	wantErrno(t, "PutClient", x.PutClient(greatest("c")), api.OK)
	wantErrno(t, "Commit", x.Commit(), api.OK)
	for n := range 100 {
		a, errno := grant.Issue(x, greatest("c").Name, fmt.Sprint("s", n), nil, 100, secret(n))
		if errno == api.ErrPagerFull && same(a, api.Issued{}) {
			return
		}
		wantErrno(t, "Issue", errno, api.OK)
	}
	t.Fatal("there is always room")
}
