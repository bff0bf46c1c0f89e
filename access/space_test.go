package access_test

import (
	"fmt"
	"math/rand"
	"slices"
	"testing"

	"latchkey/access"
	"latchkey/api"
	"latchkey/check"
	"latchkey/client"
	"latchkey/code"
	"latchkey/disk"
	"latchkey/grant"
	"latchkey/sweep"
	"latchkey/table"
)

// press is a table on a disk of just Room(families, generations) blocks, on which all records are as great as they may be.
type press struct {
	t                     *testing.T
	r                     *rand.Rand
	d                     *disk.Disk
	x                     *table.Table
	families, generations int
	secrets               int
	tokens                []string
	made                  int
}

func greatest(n int) api.Client {
	name := fmt.Sprint("c", n)
	return api.Client{Name: name + many(16-len(name), "_"), Scope: eight(), Idle: lastTime, Absolute: lastTime, Grace: lastTime, Life: lastTime}
}

func newPress(t *testing.T, families, generations, seed int) *press {
	t.Helper()
	d, errno := disk.New(grant.Room(families, generations))
	wantErrno(t, "New", errno, api.OK)
	wantErrno(t, "Format", table.Format(d), api.OK)
	p := &press{t: t, r: rand.New(rand.NewSource(int64(seed))), d: d, x: opened(t, d), families: families, generations: generations}
	for n := range 8 {
		p.does("Register", client.Register(p.x, greatest(n), many(64, "p"), 100))
		p.does("Renew", client.Renew(p.x, greatest(n).Name, many(64, "q"), most, 100))
	}
	return p
}

// does is that something is done, with room enough, and that nothing leaks.
func (p *press) does(what string, errno api.Errno, others ...api.Errno) bool {
	p.t.Helper()
	if slices.Contains(others, errno) {
		return false
	}
	if errno != api.OK {
		p.t.Fatalf("%d families of %d generations: %s: %d", p.families, p.generations, what, errno)
	}
	if pages := len(p.x.Pager().Reached()); pages+p.x.Pager().Free() != p.d.Size()-2 {
		p.t.Fatalf("%s: %d pages are reached, %d free", what, pages, p.x.Pager().Free())
	}
	return true
}

func (p *press) secret() string {
	p.secrets++
	return secret(p.secrets)
}

func (p *press) ids() []int {
	l, errno := p.x.Ending(most, most)
	wantErrno(p.t, "Ending", errno, api.OK)
	return l
}

// step is one of the calls at random, half of them NewKey.
func (p *press) step(now int) {
	p.t.Helper()
	name, subject := greatest(p.r.Intn(8)).Name, fmt.Sprintf("subject-%08d", p.r.Intn(1+p.families))
	switch n := p.r.Intn(40); {
	case n < 20:
		_, errno := access.NewKey(p.x, p.secret(), drawn(p.r, 0, 2, 5, 9, most), now)
		if p.does("NewKey", errno, api.ErrAccessMany) {
			p.made++
		}
	case n < 24:
		_, errno := code.Approve(p.x, name, subject, eight(), lettersOf(digestOf("v")), drawn(p.r, 50, most, 5), now, p.secret())
		p.does("Approve", errno, api.ErrCodeMany)
	case n < 29 && len(p.ids()) < p.families:
		a, errno := grant.Issue(p.x, name, subject, eight(), now, p.secret())
		if p.does("Issue", errno, api.ErrGrantMany) {
			p.tokens = append(p.tokens, a.Token)
		}
	case n < 36 && len(p.tokens) > 0:
		p.rotate(drawn(p.r, p.tokens...), now)
	case n < 37:
		_, errno := grant.RevokeAll(p.x, subject, now)
		p.does("RevokeAll", errno)
	case n < 38:
		_, errno := sweep.Run(p.x, 3, 16, now)
		p.does("Run", errno)
	case n < 39:
		p.x = opened(p.t, p.d)
	}
}

// rotate shows a token, if it is the current one of a family that may have one generation more.
func (p *press) rotate(text string, now int) {
	p.t.Helper()
	a, errno := grant.Introspect(p.x, text, now)
	if p.does("Introspect", errno); !a.Active || a.Gen >= p.generations {
		return
	}
	next, errno := grant.Rotate(p.x, a.Client, text, nil, now, p.secret())
	if p.does("Rotate", errno) {
		p.tokens = append(p.tokens, next.Token)
	}
}

// P7, P8: on a disk of Room(F, T) blocks there is always room for a key, and beside the keys for all else, as long as there are at most F families of at most T generations; and nothing leaks.
func TestRoomIsEnough(t *testing.T) {
	t.Parallel()
	for n, size := range [][2]int{{0, 0}, {1, 1}, {1, 30}, {4, 10}, {20, 2}} {
		t.Run(fmt.Sprint(size), func(t *testing.T) {
			t.Parallel()
			p := newPress(t, size[0], size[1], n)
			for step := range 400 {
				p.step(100 + step)
			}
			findings, errno := check.Image(p.d.Blocks())
			if len(findings) > 0 || errno != api.OK {
				t.Fatalf("%v, %d", findings, errno)
			}
			if p.made < 10 {
				t.Errorf("the test is wrong: %d keys were made", p.made)
			}
		})
	}
}

// P8: keys that come and go take no more pages than those that are there.
func TestNothingLeaks(t *testing.T) {
	b := founded(t, 40, 0)
	pages := 0
	for n := range 200 {
		if _, errno := access.NewKey(b.x, secret(n), 2, 10+n); errno != api.OK {
			t.Fatalf("NewKey: %d", errno)
		}
		if n == 50 { // the trail has as many events as are kept
			pages = len(b.x.Pager().Reached())
		}
	}
	if p := b.x.Pager(); len(p.Reached()) > pages+1 || p.Free()+len(p.Reached()) != p.Size()-2 {
		t.Fatalf("%d pages are reached, %d were", len(p.Reached()), pages)
	}
	b.asked()
	b.look("behind all")
	wantUntils(t, b, 198, 210, 211, lastTime)
}
