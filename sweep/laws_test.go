package sweep_test

import (
	"fmt"
	"math/rand"
	"slices"
	"strings"
	"testing"

	"latchkey/api"
	"latchkey/disk"
	"latchkey/grant"
	"latchkey/table"
	"latchkey/trail"
)

// drawn is one of some.
func drawn[T any](r *rand.Rand, l ...T) T { return l[r.Intn(len(l))] }

// lawClients are app, whose families are short, web, whose are longer, and off.
func lawClients() []api.Client {
	l := three()
	l[2].Idle, l[2].Absolute, l[2].Grace = 90, 300, 20
	return l
}

// told is a text that was told, and to whom.
type told struct {
	text, client string
}

// calls draws calls at random, of what was told.
type calls struct {
	r             *rand.Rand
	now           func() int
	secrets       int
	codes, tokens []told // of codes, of families
}

// secret is most often a new one.
func (c *calls) secret() string {
	if c.r.Intn(30) == 0 {
		return drawn(c.r, "", many(23, "s"), secret(1), many(24, "\x00"))
	}
	c.secrets++
	return secret(c.secrets)
}

// reading is most often a little later than the time.
func (c *calls) reading() int {
	switch c.r.Intn(80) {
	case 0:
		return drawn(c.r, least, -1, 0, c.now()-1)
	case 1:
		return c.now() + c.r.Intn(200)
	}
	return c.now() + drawn(c.r, -3, 0, 0, 0, 0, 0, 0, 0, 0, 0, 1, 1, 1, 2, 4)
}

// of is one that was told, most often of late, and who shows it, most often its client.
func (c *calls) of(l []told) told {
	if len(l) == 0 || c.r.Intn(30) == 0 {
		return told{drawn(c.r, "", "x", textOf("lkc_", 1+c.r.Intn(40), secret(1)), textOf("lkr_", 1+c.r.Intn(40), secret(2))), "app"}
	}
	k := l[c.r.Intn(len(l))]
	if c.r.Intn(3) > 0 {
		k = l[max(0, len(l)-1-c.r.Intn(10))]
	}
	if c.r.Intn(12) == 0 {
		k.client = drawn(c.r, "app", "web", "off", "gone", "App")
	}
	return k
}

func (c *calls) retain() int {
	return drawn(c.r, 0, 0, 0, 1, 5, 5, 20, 20, 50, 100, -1, least, lastTime, most)
}

func (c *calls) client() string {
	return drawn(c.r, "app", "app", "app", "web", "web", "off", "gone")
}

func (c *calls) subject() string {
	return drawn(c.r, "ann", "ann", "ann", "ann", "bob", "bob", many(16, "z"), fmt.Sprint("s", c.r.Intn(30)))
}

func (c *calls) scope() []string {
	return drawn(c.r, nil, nil, nil, names("read"), names("read", "write"), names("admin"), names("b", "a"))
}

// sweep is a call of this layer.
func (c *calls) sweep() call {
	if c.r.Intn(4) == 0 {
		return due(c.retain(), c.reading())
	}
	return run(c.retain(), drawn(c.r, 1, 1, 2, 3, 5, 16, 16, 16, 0, 17), c.reading())
}

// below is a call of the layers 20 and 21, or of the layer 19.
func (c *calls) below() call {
	code, token := c.of(c.codes), c.of(c.tokens)
	switch n := c.r.Intn(40); {
	case n < 8:
		return approve(c.client(), c.subject(), c.scope(), ofV, drawn(c.r, 30, 20, 10, 5, 1, 0, -1, most), c.reading(), c.secret())
	case n < 16:
		return redeem(code.client, code.text, drawn(c.r, v, v, v, v, w, ""), c.reading(), c.secret())
	case n < 22:
		return issue(c.client(), c.subject(), c.scope(), c.reading(), c.secret())
	case n < 32:
		return rotate(token.client, token.text, c.scope(), c.reading(), c.secret())
	case n < 35:
		return revoke(token.client, token.text, c.reading())
	case n < 36:
		return revokeAll(c.subject(), c.reading())
	case n < 37:
		return turn(drawn(c.r, "app", "web", "off"), c.r.Intn(5) == 0, c.reading())
	}
	return introspect(token.text, c.reading())
}

// heard keeps what an answer tells.
func (c *calls) heard(client string, a answer) {
	if a.text != "" {
		c.codes = append(c.codes, told{a.text, client})
	}
	if a.issued.Token != "" {
		c.tokens = append(c.tokens, told{a.issued.Token, client})
	}
}

// ownerOf is the client to which a text of an answer was told, as the table has it.
func ownerOf(x *table.Table, a answer) string {
	if f, errno := x.Family(max(a.issued.Family, 1)); errno == api.OK && a.issued.Family != 0 {
		return f.Client
	}
	l, _ := x.Codes()
	for _, k := range l {
		if a.text != "" && k.Hash == digestOf(a.text) {
			return k.Client
		}
	}
	return "app"
}

// course is a row of calls at random on a table, each held against the book.
type course struct {
	*both
	calls
	kept api.Chain // the trail's ends, as they were behind the last answer
}

func newCourse(t *testing.T, blocks, seed int) *course {
	t.Helper()
	b := founded(t, blocks, 1, 0, lawClients()...)
	c := &course{both: b, kept: b.b.everything().chain}
	c.calls = calls{r: rand.New(rand.NewSource(int64(seed))), now: func() int { return c.b.now }}
	return c
}

// next is one of the calls.
func (c *course) next() call {
	if c.r.Intn(4) == 0 {
		return c.calls.sweep()
	}
	return c.calls.below()
}

// changing is a sweep that takes something away, for it comes late enough; any call, if there is nothing.
func (c *course) changing() call {
	if l := c.b.dueLines(0); len(l) > 0 {
		return run(c.b.now-l[c.r.Intn(len(l))].end(), drawn(c.r, 1, 2, 16), c.b.now)
	}
	if l := c.b.dueSlips(0); len(l) > 0 {
		return run(0, 16, c.b.now)
	}
	if l := c.b.ids(); len(l) > 0 {
		return run(3, 16, c.b.lines[drawn(c.r, l...)].end()+3)
	}
	return c.next()
}

// trail reads the trail: it is the book's, it leads from the one end to the other, and it goes on from where it was.
func (c *course) trail(what string) {
	c.t.Helper()
	chain, events, errno := trail.Read(c.x)
	want := c.b.everything()
	if errno != api.OK || chain != want.chain || !slices.Equal(events, want.events) {
		c.t.Fatalf("%s: the trail is %x, %v, %d; want %x, %v", what, chain, events, errno, want.chain, want.events)
	}
	wantErrno(c.t, what+": Verify", trail.Verify(chain, events), api.OK)
	if chain.Next-c.kept.Next <= 32 {
		wantErrno(c.t, what+": Goes", trail.Goes(c.kept, chain, events), api.OK)
	}
	c.kept = chain
}

// someBegunAnywhere are things that somebody may have begun on any table.
func someBegunAnywhere() []func(x *table.Table) {
	return []func(x *table.Table){
		func(x *table.Table) { x.ID() },
		func(x *table.Table) { x.PutClient(someClient("gone")) },
		func(x *table.Table) { trail.Note(x, api.EventKey, 0, "") },
		func(x *table.Table) {
			l, _ := x.Ending(most, 1)
			for _, id := range l {
				x.Remove(id)
			}
		},
		func(x *table.Table) {
			l, _ := x.Codes()
			for _, k := range l {
				x.RemoveCode(k.ID)
			}
		},
		func(x *table.Table) { grant.Begin(x, "web", "ann", nil, 3, secret(1)) },
	}
}

// tally is what was swept in a row, which errors were answered, in how many sweeps the disk died, and behind how many of these they are there.
type tally struct {
	swept        api.Swept
	answers      map[api.Errno]int
	died, turned int
}

func (y *tally) add(s api.Swept) {
	y.swept.Families, y.swept.Tokens, y.swept.Codes = y.swept.Families+s.Families, y.swept.Tokens+s.Tokens, y.swept.Codes+s.Codes
}

// tallied is the sum of so many rows, made at the same time.
func tallied(t *testing.T, rows int, row func(t *testing.T, seed int) tally) tally {
	all := make(chan tally, rows)
	t.Run("rows", func(t *testing.T) {
		for seed := range rows {
			t.Run(fmt.Sprint(seed), func(t *testing.T) {
				t.Parallel()
				all <- row(t, seed)
			})
		}
	})
	close(all)
	sum := tally{answers: map[api.Errno]int{}}
	for y := range all {
		sum.add(y.swept)
		for errno, n := range y.answers {
			sum.answers[errno] += n
		}
		sum.died, sum.turned = sum.died+y.died, sum.turned+y.turned
	}
	return sum
}

// row makes so many calls, with that many deaths in a hundred of them.
func (c *course) row(count, deaths int) tally {
	c.t.Helper()
	y := tally{answers: map[api.Errno]int{}}
	begun := someBegunAnywhere()
	for range count {
		if c.r.Intn(8) == 0 {
			drawn(c.r, begun...)(c.x)
		}
		next := c.next()
		if c.r.Intn(100) >= deaths {
			a := c.quick(next)
			c.heard(ownerOf(c.x, a), a)
			y.add(a.swept)
			y.answers[a.errno]++
		} else {
			if c.r.Intn(4) > 0 {
				next = c.changing()
			}
			died, there := c.dies(next)
			if died && strings.HasPrefix(next.what, "Run") {
				y.died++
				if there {
					y.turned++
				}
			}
		}
		c.trail(next.what)
		switch c.r.Intn(60) {
		case 0, 1, 2, 3:
			c.look("in between")
		case 4:
			c.reopen()
		}
	}
	c.look("behind all")
	return y
}

// keepOf is what stays behind a crash, drawn.
func keepOf(r *rand.Rand, d *disk.Disk) []api.Keep {
	var l []api.Keep
	for n := range d.Pending() {
		if r.Intn(6) > 0 {
			l = append(l, api.Keep{N: n, Sectors: drawn(r, 0, 255, r.Intn(256), 1<<r.Intn(8), 255^1<<r.Intn(8))})
		}
	}
	return l
}

// actsOf is how many acts a call does.
func (c *course) actsOf(next call) int {
	d := loaded(c.t, c.d.Blocks())
	x := opened(c.t, d)
	x.See(c.x.Now())
	next.do(x)
	return d.Acts()
}

// dies makes a call on a disk that dies in one of its acts, if it does one, often in the last one; then whatever stays is opened. It says whether the disk died, and whether the change is there then.
func (c *course) dies(next call) (died, there bool) {
	c.t.Helper()
	was, before := c.b.copied(), c.x.Pager().Generation()
	if acts := c.actsOf(next); acts > 0 {
		wantErrno(c.t, "Arm", c.d.Arm(drawn(c.r, acts, 1+c.r.Intn(acts), acts+1)), api.OK)
	}
	want := next.book(c.b)
	got := next.do(c.x)
	if died = c.d.Dead(); !died {
		if !got.same(want) {
			c.t.Fatalf("%s: %#v, want %#v", next.what, got, want)
		}
		wantErrno(c.t, "Arm", c.d.Arm(0), api.OK)
		c.heard(ownerOf(c.x, got), got)
		return false, false
	}
	if !got.same(answer{errno: api.ErrDead}) || c.b.commits == was.commits {
		c.t.Fatalf("%s: it died, and answered %#v; want %#v", next.what, got, want)
	}
	c.wantRefused(due(0, 0), api.ErrDead)
	wantErrno(c.t, "Crash", c.d.Crash(keepOf(c.r, c.d)), api.OK)
	c.wantRefused(run(0, 16, 0), api.ErrDead) // in doubt until it is opened anew
	c.x = opened(c.t, c.d)
	if there = c.x.Pager().Generation() > before; !there {
		c.b = was
	}
	c.b.now = c.b.noted
	c.look(next.what + ", behind a death")
	return true, there
}

// S1, S2, P1: rows of calls at random, each held against the book; tables opened anew in between; things begun that are forgotten.
func TestLawRows(t *testing.T) {
	t.Parallel()
	sum := tallied(t, 8, func(t *testing.T, seed int) tally { return newCourse(t, 500, seed).row(500, 0) })
	if s := sum.swept; (s.Families < 100 || s.Tokens < s.Families+50 || s.Codes < 50) && !t.Failed() {
		t.Errorf("the test is wrong: hardly anything is swept: %+v", sum)
	}
	for _, errno := range []api.Errno{
		api.OK, api.ErrArg, api.ErrClientNone, api.ErrClientOff, api.ErrGrantToken, api.ErrGrantScope, api.ErrGrantMany, api.ErrCodeToken, api.ErrCodeVerify,
	} {
		if sum.answers[errno] < 10 && !t.Failed() {
			t.Errorf("the test is wrong: hardly anything answers %d: %+v", errno, sum)
		}
	}
}

// P2, P8: rows of calls at random, with deaths in any act, and crashes that keep any sectors: what is opened then is as it was, or as it is behind the sweep, as a whole.
func TestLawDeaths(t *testing.T) {
	t.Parallel()
	sum := tallied(t, 8, func(t *testing.T, seed int) tally { return newCourse(t, 500, 100+seed).row(400, 25) })
	if (sum.died < 100 || sum.turned < 20 || sum.turned > sum.died-20) && !t.Failed() {
		t.Errorf("the test is wrong: %+v", sum)
	}
}

// P2: a death in each act of a sweep, with some sets of sectors of the last block that was written: as it was, or as it would be, as a whole.
func TestLawEachAct(t *testing.T) {
	t.Parallel()
	image := faulty(t, fault{events: 99})
	for _, next := range []call{run(0, 16, 120), run(0, 1, 150), run(0, 2, 160), run(0, 16, 160), run(5, 16, 156), run(0, 16, most)} {
		t.Run(next.what, func(t *testing.T) {
			t.Parallel()
			turned, done := 0, false
			for act := 1; !done; act++ {
				b := image.twin(t)
				wantErrno(t, "Arm", b.d.Arm(act), api.OK)
				got := next.do(b.x)
				if done = !b.d.Dead(); done {
					continue
				}
				if !got.same(answer{errno: api.ErrDead}) {
					t.Fatalf("%s: %#v", next.what, got)
				}
				for _, sectors := range []int{0, 1, 2, 3, 4, 85, 126, 127, 128, 129, 170, 254, 255} {
					turned += b.crashed(next, act, sectors)
				}
			}
			if turned != 6 { // the head's first sector alone says which one counts
				t.Fatalf("%d crashes have let the change stand", turned)
			}
		})
	}
}

// crashed is that behind a crash which keeps all that is pending, but of the last block only some sectors, stands what was, or what would be: 1 of that.
func (b *both) crashed(next call, act, sectors int) int {
	b.t.Helper()
	other := loaded(b.t, b.d.Blocks())
	var keep []api.Keep
	for n, w := range b.d.Pending() {
		wantErrno(b.t, "Write", other.Write(w.Block, w.Data), api.OK)
		keep = append(keep, api.Keep{N: n, Sectors: 255})
	}
	if len(keep) > 0 {
		keep[len(keep)-1].Sectors = sectors
	}
	wantErrno(b.t, "Crash", other.Crash(keep), api.OK)
	what := fmt.Sprintf("%s, act %d, sectors %d", next.what, act, sectors)
	if opened(b.t, other).Pager().Generation() == b.x.Pager().Generation() {
		wantStands(b.t, what+": as it was", other, b.b)
		return 0
	}
	would := b.b.copied()
	next.book(would)
	wantStands(b.t, what+": as it would be", other, would)
	return 1
}

// R4, P1: rows of calls on small disks: what has no room changes nothing.
func TestLawSmallDisks(t *testing.T) {
	t.Parallel()
	for seed := range 8 {
		t.Run(fmt.Sprint(seed), func(t *testing.T) {
			t.Parallel()
			c := newCourse(t, 10+2*seed, 300+seed)
			full, swept := 0, 0
			for range 200 {
				next := c.next()
				was, before := c.b.copied(), c.state()
				want := next.book(c.b)
				got := next.do(c.x)
				if got.errno == api.ErrPagerFull && c.b.commits > was.commits {
					was.now = c.b.now
					c.b = was
					if after := c.state(); after != before || !got.same(answer{errno: api.ErrPagerFull}) {
						t.Fatalf("%s: %#v, %d acts", next.what, got, after.acts-before.acts)
					}
					full++
				} else if !got.same(want) {
					t.Fatalf("%s: %#v, want %#v", next.what, got, want)
				}
				swept += got.swept.Families
				c.heard(ownerOf(c.x, got), got)
				c.look(next.what)
			}
			if full == 0 && seed < 4 || swept == 0 && seed > 3 {
				t.Errorf("the test is wrong: %d times there was no room, %d families were swept", full, swept)
			}
		})
	}
}
