package endpoint_test

import (
	"fmt"
	"math/rand"
	"reflect"
	"slices"
	"testing"

	"latchkey/api"
	"latchkey/disk"
	"latchkey/table"
	"latchkey/trail"
)

// sums are the counts of so many rows, made at the same time.
func sums(t *testing.T, rows int, row func(t *testing.T, seed int) map[string]int) map[string]int {
	all := make(chan map[string]int, rows)
	t.Run("rows", func(t *testing.T) {
		for seed := range rows {
			t.Run(fmt.Sprint(seed), func(t *testing.T) {
				t.Parallel()
				all <- row(t, seed)
			})
		}
	})
	close(all)
	sum := map[string]int{}
	for counts := range all {
		for what, n := range counts {
			sum[what] += n
		}
	}
	return sum
}

// wantSums is that each of these things came about often enough, or the test is wrong.
func wantSums(t *testing.T, sum map[string]int, least int, what ...string) {
	t.Helper()
	for _, w := range what {
		if sum[w] < least && !t.Failed() {
			t.Errorf("the test is wrong: hardly ever %s: %v", w, sum)
		}
	}
}

// E8, P1, P3, P4: rows of requests at random, by calls, each held against the model: no refresh token has two next ones, and behind an end there is no 200 at /token.
func TestRows(t *testing.T) {
	t.Parallel()
	sum := sums(t, 8, func(t *testing.T, seed int) map[string]int {
		c := newCourse(t, seed)
		for step := range 600 {
			if c.r.Intn(6) == 0 {
				c.other()
			}
			if c.asks(); c.r.Intn(40) == 0 {
				if s, _ := c.tend(c.reading()); s.Families > 0 {
					c.counts["swept"]++
				}
			}
			if step%100 == 0 {
				c.look("in between")
			}
		}
		return c.counts
	})
	wantSums(t, sum, 20, "200", "400", "401", "404", "405", "415", "429", "500", "again", "active", "refresh_token", "authorization_code", "swept")
}

// E8, E7: likewise by bytes, on three lines, cut anywhere.
func TestLineRows(t *testing.T) {
	t.Parallel()
	sum := sums(t, 8, func(t *testing.T, seed int) map[string]int {
		c := newCourse(t, 50+seed)
		for range 600 {
			if c.r.Intn(6) == 0 {
				c.other()
			}
			c.feeds()
		}
		c.look("behind all")
		return c.counts
	})
	wantSums(t, sum, 20, "200", "400", "401", "404", "405", "415", "500", "again", "active", "refresh_token", "authorization_code")
}

// everything is all that a table has.
type everything struct {
	Clients  []api.Client
	Families []api.Family
	Tokens   []api.Token
	Codes    []api.Code
	Keys     []api.Key
	Chain    api.Chain
	Events   []api.Event
	Note     string
}

// toldOf is everything, as it is told behind the last commit.
func toldOf(t *testing.T, x *table.Table) everything {
	t.Helper()
	var e everything
	var errno [6]api.Errno
	e.Clients, errno[0] = x.Clients()
	e.Codes, errno[1] = x.Codes()
	e.Keys, errno[2] = x.Keys()
	e.Chain, e.Events, errno[3] = trail.Read(x)
	ids, last := x.Ending(most, most)
	errno[4] = last
	slices.Sort(ids)
	for _, id := range ids {
		f, failed := x.Family(id)
		l, failing := x.Tokens(id)
		errno[5] = max(errno[5], failed, failing)
		e.Families, e.Tokens = append(e.Families, f), append(e.Tokens, l...)
	}
	if errno != [6]api.Errno{} {
		t.Fatalf("the table tells %v", errno)
	}
	wantErrno(t, "Verify", trail.Verify(e.Chain, e.Events), api.OK)
	e.Note = x.Pager().Note()
	return e
}

// keepOf is what stays behind a crash, drawn.
func keepOf(r *rand.Rand, d *disk.Disk) []api.Keep {
	var l []api.Keep
	for n := range d.Pending() {
		if r.Intn(6) > 0 {
			l = append(l, api.Keep{N: n, Sectors: drawn(r, 0, 255, 255, r.Intn(256), 1<<r.Intn(8), 255^1<<r.Intn(8))})
		}
	}
	return l
}

// dies is a request in which the disk dies in some act, if it does one; then whatever stays is opened: as it was, or as it is behind the request, as a whole.
func (c *course) dies() {
	c.t.Helper()
	m, now, minted := c.request(), c.reading(), c.secret()
	was, generation := toldOf(c.t, c.x), c.x.Pager().Generation()
	acts := c.d2.Acts()
	want := c.k.serve(m, now, minted)
	acts = c.d2.Acts() - acts
	if acts > 0 {
		wantErrno(c.t, "Arm", c.d.Arm(drawn(c.r, acts, 1+c.r.Intn(acts))), api.OK)
	}
	a := c.e.Serve(m, now, minted)
	if acts == 0 {
		wantAnswer(c.t, whatOf(m), a, want)
		c.heard(m, a)
		return
	}
	c.counts["died"]++
	wantAnswer(c.t, "it died", a, later)
	wantErrno(c.t, "Crash", c.d.Crash(keepOf(c.r, c.d)), api.OK)
	wantRight(c.t, "behind a crash", c.d)
	x := opened(c.t, c.d)
	would := was
	if x.Pager().Generation() > generation {
		c.counts["turned"]++
		would = toldOf(c.t, c.x2)
	}
	if e := toldOf(c.t, x); !reflect.DeepEqual(e, would) {
		c.t.Fatalf("%s: behind a crash: %+v, want %+v", whatOf(m), e, would)
	}
	if x.Pager().Generation() > generation && m.Path == "/token" && want.Status == 200 { // nobody was told the next one, but it is the one that there is
		c.lost(m, memberOf(want.Body, "refresh_token"))
	}
	c.d2 = loaded(c.t, c.d.Blocks())
	c.d = loaded(c.t, c.d.Blocks())
	c.acts = 0
	c.open()
}

// lost is an answer that did not come: what is given later must be the same.
func (c *course) lost(m api.Message, next string) {
	form, _ := formOf(m.Body)
	if text, is := form["refresh_token"]; is && form["grant_type"] == "refresh_token" {
		if was, there := c.next[text]; there && was != next {
			c.t.Fatalf("two next ones: %q, %q", was, next)
		}
		c.next[text] = next
	}
}

// P2, P3, P4, E8: rows of requests with deaths in any act, and crashes that keep any sectors.
func TestDeaths(t *testing.T) {
	t.Parallel()
	sum := sums(t, 8, func(t *testing.T, seed int) map[string]int {
		c := newCourse(t, 100+seed)
		for range 300 {
			if c.r.Intn(5) == 0 {
				c.other()
			}
			if c.r.Intn(3) == 0 {
				c.dies()
			} else {
				c.asks()
			}
		}
		return c.counts
	})
	wantSums(t, sum, 20, "died", "200", "turned", "refresh_token")
	if sum["turned"]+30 > sum["died"] && !t.Failed() {
		t.Errorf("the test is wrong: %v", sum)
	}
}
