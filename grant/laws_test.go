package grant_test

import (
	"fmt"
	"math/rand"
	"slices"
	"testing"

	"latchkey/api"
	"latchkey/disk"
	"latchkey/trail"
)

// drawn is one of some.
func drawn[T any](r *rand.Rand, l ...T) T { return l[r.Intn(len(l))] }

// lawClients are app, whose families are short, web, whose are long, and off.
func lawClients() []api.Client {
	l := three()
	l[2].Idle, l[2].Absolute, l[2].Grace = 200, 600, 40
	return l
}

// course is a row of calls at random on a table, with all texts that were ever told, and what the answers alone have shown.
type course struct {
	*both
	r       *rand.Rand
	secrets int
	texts   []string
	witness witness
	kept    api.Chain // the trail's ends, as they were behind the last answer
}

func newCourse(t *testing.T, blocks, seed int) *course {
	t.Helper()
	b := founded(t, blocks, 1, 0, lawClients()...)
	return &course{both: b, r: rand.New(rand.NewSource(int64(seed))), witness: newWitness(b), kept: b.b.everything().chain}
}

// secret is most often a new one.
func (c *course) secret() string {
	if c.r.Intn(25) == 0 {
		return drawn(c.r, "", many(23, "s"), many(25, "s"), secret(1), secret(2), many(24, "\x00"))
	}
	c.secrets++
	return secret(c.secrets)
}

// reading is most often a little later than the time.
func (c *course) reading() int {
	switch c.r.Intn(60) {
	case 0:
		return drawn(c.r, least, -1, 0, c.b.now-1)
	case 1:
		return c.b.now + c.r.Intn(200)
	}
	return c.b.now + drawn(c.r, -3, 0, 0, 0, 1, 1, 2, 3, 5, 9, 10, 11)
}

func (c *course) scope() []string {
	if c.r.Intn(12) == 0 {
		return drawn(c.r, wrongScopes()...)
	}
	return drawn(c.r, nil, nil, nil, names(), names("read"), names("write"), names("read", "write"), names("admin"))
}

// text is most often one that was told; of these, most often a late one.
func (c *course) text() string {
	all := c.b.texts()
	switch n := c.r.Intn(30); {
	case n == 0 || len(all) == 0:
		return drawn(c.r, "", "x", textOf("lkr_", 1+c.r.Intn(40), secret(c.r.Intn(40))), textOf("lkc_", 1+c.r.Intn(40), secret(1)))
	case n == 1:
		text := []byte(drawn(c.r, all...))
		text[c.r.Intn(len(text))] ^= byte(1 + c.r.Intn(255))
		return string(text)
	case n < 8 && len(c.texts) > 0: // also such as were never committed, or belong to nobody any more
		return drawn(c.r, c.texts...)
	case n < 20:
		l := c.b.lines[drawn(c.r, c.b.ids()...)]
		return l.coins[max(0, len(l.coins)-1-c.r.Intn(2))].text()
	}
	return drawn(c.r, all...)
}

// shower is most often the client whose text that is.
func (c *course) shower(text string) string {
	if l, g := c.b.find(text); g > 0 && c.r.Intn(8) > 0 {
		return l.client
	}
	return drawn(c.r, "app", "web", "off", "gone", "App", "")
}

func (c *course) subject() string {
	return drawn(c.r, "ann", "ann", "bob", "bob", "eve", "an", many(16, "z"), "Ann", "")
}

// next is one of the calls, drawn for what there is.
func (c *course) next() call {
	text := c.text()
	switch n := c.r.Intn(40); {
	case n < 8:
		return issue(drawn(c.r, "app", "app", "app", "web", "web", "off", "gone", ""), c.subject(), c.scope(), c.reading(), c.secret())
	case n < 28:
		return rotate(c.shower(text), text, c.scope(), c.reading(), c.secret())
	case n < 30:
		return revoke(c.shower(text), text, c.reading())
	case n < 31:
		return revokeAll(c.subject(), c.reading())
	case n < 33:
		return turn(drawn(c.r, "app", "web", "off", "gone"), c.r.Intn(3) == 0, c.reading())
	}
	return introspect(text, c.reading())
}

// change is a call that changes something, most often.
func (c *course) change() call {
	var alive []line
	for _, id := range c.b.ids() {
		if l := c.b.lines[id]; l.alive(c.b.now) {
			alive = append(alive, l)
		}
	}
	if len(alive) < 3 || c.r.Intn(12) == 0 {
		return issue(drawn(c.r, "app", "web"), drawn(c.r, "ann", "bob", "eve"), nil, c.b.now, c.secret())
	}
	l := drawn(c.r, alive...)
	switch c.r.Intn(16) {
	case 0:
		return revoke(l.client, l.last().text(), c.b.now)
	case 1:
		return revokeAll(l.subject, c.b.now)
	case 2:
		return rotate(l.client, l.coins[0].text(), nil, c.b.now+11, c.secret())
	}
	return rotate(l.client, l.last().text(), nil, c.reading(), c.secret())
}

// heard keeps what an answer tells.
func (c *course) heard(a answer) {
	if a.issued.Token != "" {
		c.texts = append(c.texts, a.issued.Token)
	}
}

// trail reads the trail: it is the book's, it leads from the one end to the other, and it goes on from where it was.
func (c *course) trail(what string) {
	c.t.Helper()
	chain, events, errno := trail.Read(c.x)
	want := c.b.everything()
	if errno != api.OK || chain != want.chain || !slices.Equal(events, want.events) {
		c.t.Fatalf("%s: the trail is %x, %v, %d; want %x, %v", what, chain, events, errno, want.chain, want.events)
	}
	wantErrno(c.t, what+": Verify", trail.Verify(chain, events), api.OK)
	if chain.Next-c.kept.Next <= 32 {
		wantErrno(c.t, what+": Goes", trail.Goes(c.kept, chain, events), api.OK)
	}
	c.kept = chain
}

// witness has heard nothing but what was asked and answered, and holds the theorem against that.
type witness struct {
	b     *both
	nexts map[string]string // by the text that was shown
	lines map[int]heardLine // by families
}

// heardLine is what is known of a family: when it was begun, the client, the scope; whether it must have ended.
type heardLine struct {
	created, absolute int
	client            string
	scope             []string
	ended             bool
}

func newWitness(b *both) witness {
	return witness{b, map[string]string{}, map[int]heardLine{}}
}

// took is that a token was taken by a client, for a scope, and gave a next one.
func (w witness) took(client, text string, a api.Issued) {
	w.b.t.Helper()
	if next, heard := w.nexts[text]; heard && next != a.Token {
		w.b.t.Fatalf("%s gave %s, and gives %s", text, next, a.Token)
	}
	w.nexts[text] = a.Token
	l := w.lines[a.Family]
	if l.ended || l.client != client || !isWithin(a.Scope, l.scope) || w.b.x.Now() >= l.created+l.absolute {
		w.b.t.Fatalf("%s is taken by %s at %d: %#v, of %#v", text, client, w.b.x.Now(), a, l)
	}
}

// row makes so many calls, with that many deaths in a hundred of them.
func (c *course) row(calls, deaths int) (died, turned int, answers map[api.Errno]int) {
	c.t.Helper()
	answers = map[api.Errno]int{}
	begun := someBegunAnywhere()
	for range calls {
		if c.r.Intn(8) == 0 {
			drawn(c.r, begun...)(c.x)
		}
		next := c.next()
		if c.r.Intn(100) >= deaths {
			a := c.quick(next)
			c.heard(a)
			answers[a.errno]++
		} else {
			if c.r.Intn(3) > 0 {
				next = c.change()
			}
			dies, there := c.dies(next)
			if dies {
				died++
			}
			if there {
				turned++
			}
		}
		c.trail(next.what)
		switch c.r.Intn(60) {
		case 0, 1, 2, 3:
			c.look("in between")
		case 4:
			c.reopen()
		case 5:
			c.wantOneActive()
		}
	}
	c.look("behind all")
	c.wantOneActive()
	return died, turned, answers
}

// keepOf is what stays behind a crash, drawn.
func keepOf(r *rand.Rand, d *disk.Disk) []api.Keep {
	var l []api.Keep
	for n := range d.Pending() {
		if r.Intn(6) > 0 {
			l = append(l, api.Keep{N: n, Sectors: drawn(r, 0, 255, r.Intn(256), 1<<r.Intn(8), 255^1<<r.Intn(8))})
		}
	}
	return l
}

// actsOf is how many acts a call does.
func (c *course) actsOf(next call) int {
	d := loaded(c.t, c.d.Blocks())
	x := opened(c.t, d)
	x.See(c.x.Now())
	next.do(x)
	return d.Acts()
}

// dies makes a call on a disk that dies in one of its acts, if it does one, often in the last one; then whatever stays is opened. It says whether the disk died, and whether the change is there then.
func (c *course) dies(next call) (died, there bool) {
	c.t.Helper()
	was, before := c.b.copied(), c.x.Pager().Generation()
	if acts := c.actsOf(next); acts > 0 {
		wantErrno(c.t, "Arm", c.d.Arm(drawn(c.r, acts, 1+c.r.Intn(acts), acts+1)), api.OK)
	}
	want := next.book(c.b)
	got := next.do(c.x)
	if died = c.d.Dead(); !died {
		if !got.same(want) {
			c.t.Fatalf("%s: %#v, want %#v", next.what, got, want)
		}
		wantErrno(c.t, "Arm", c.d.Arm(0), api.OK)
		c.heard(got)
		c.glance(next.what)
		return false, false
	}
	if !got.same(answer{errno: api.ErrDead}) || c.b.commits == was.commits {
		c.t.Fatalf("%s: it died, and answered %#v; want %#v", next.what, got, want)
	}
	c.wantRefused(introspect("x", 0), api.ErrDead)
	wantErrno(c.t, "Crash", c.d.Crash(keepOf(c.r, c.d)), api.OK)
	c.wantRefused(revokeAll("ann", 0), api.ErrDead) // in doubt until it is opened anew
	c.heard(want)                                   // somebody may guess it
	c.x = opened(c.t, c.d)
	if there = c.x.Pager().Generation() > before; !there {
		c.b = was
	}
	c.b.now = c.b.noted
	c.look(next.what + ", behind a death")
	return true, there
}

// G7, P1: rows of calls at random, each held against the book; tables opened anew in between; things begun that are forgotten.
func TestLawRows(t *testing.T) {
	t.Parallel()
	for seed := range 8 {
		t.Run(fmt.Sprint(seed), func(t *testing.T) {
			t.Parallel()
			c := newCourse(t, 320, seed)
			_, _, answers := c.row(400, 0)
			for _, errno := range []api.Errno{api.OK, api.ErrArg, api.ErrClientNone, api.ErrClientOff, api.ErrGrantToken, api.ErrGrantScope} {
				if answers[errno] == 0 {
					t.Errorf("the test is wrong: nothing answers %d: %v", errno, answers)
				}
			}
		})
	}
}

// G7, P2: rows of calls at random, with deaths in any act, and crashes that keep any sectors.
func TestLawDeaths(t *testing.T) {
	t.Parallel()
	for seed := range 8 {
		t.Run(fmt.Sprint(seed), func(t *testing.T) {
			t.Parallel()
			c := newCourse(t, 320, 100+seed)
			died, turned, answers := c.row(240, 50)
			if died < 30 || turned < 2 || turned == died || answers[api.OK] == 0 {
				t.Errorf("the test is wrong: %d deaths, behind %d of them the change is there; %v", died, turned, answers)
			}
		})
	}
}

// G7: what the answers alone show, over deaths: of each text one next one; what has ended stays so; what is taken is taken by its client, ahead of its end, for no more than was granted; at most one of a family is active.
func TestLawWitness(t *testing.T) {
	t.Parallel()
	for seed := range 8 {
		t.Run(fmt.Sprint(seed), func(t *testing.T) {
			t.Parallel()
			c := newCourse(t, 320, 200+seed)
			taken, ended := 0, 0
			for range 400 {
				if c.r.Intn(6) == 0 {
					wantErrno(t, "Arm", c.d.Arm(1+c.r.Intn(12)), api.OK)
				}
				took, ends := c.witnessed()
				taken, ended = taken+took, ended+ends
				if !c.d.Dead() {
					wantErrno(t, "Arm", c.d.Arm(0), api.OK)
					continue
				}
				wantErrno(t, "Crash", c.d.Crash(keepOf(c.r, c.d)), api.OK)
				c.x = opened(t, c.d)
			}
			if taken < 30 || ended < 10 {
				t.Errorf("the test is wrong: %d taken, %d ended", taken, ended)
			}
		})
	}
}

// witnessed makes one call without a book, and lets the witness hear of it.
func (c *course) witnessed() (taken, ended int) {
	c.t.Helper()
	w := c.witness
	now := c.x.Now() + drawn(c.r, -5, 0, 0, 0, 1, 1, 2, 4, 8)
	text := "x"
	if len(c.texts) > 0 {
		text = c.texts[max(0, len(c.texts)-1-c.r.Intn(1+c.r.Intn(min(12, len(c.texts)))))]
	}
	client := drawn(c.r, "app", "web", "web")
	switch n := c.r.Intn(20); {
	case n < 4:
		a := issue(client, drawn(c.r, "ann", "bob"), drawn(c.r, nil, names("read")), now, c.secret()).do(c.x)
		c.heard(a)
		if a.errno == api.OK {
			w.lines[a.issued.Family] = heardLine{c.x.Now(), c.b.clients[client].Absolute, client, a.issued.Scope, false}
		}
	case n < 15:
		a := rotate(client, text, drawn(c.r, nil, names("read"), names("admin")), now, c.secret()).do(c.x)
		c.heard(a)
		if a.errno == api.OK {
			w.took(client, text, a.issued)
			return 1, 0
		}
		return 0, w.mayHaveEnded(c, a.errno)
	case n < 16:
		if revoke(client, text, now).do(c.x).errno == api.OK {
			return 0, w.mayHaveEnded(c, api.ErrGrantToken)
		}
	default:
		w.asks(c, now)
	}
	return 0, 0
}

// mayHaveEnded notes all families that have ended, if an answer was given that may say so: from then on they must stay so.
func (w witness) mayHaveEnded(c *course, errno api.Errno) int {
	if errno != api.ErrGrantToken {
		return 0
	}
	count := 0
	for id, l := range w.lines {
		f, e := c.x.Family(id)
		wantErrno(c.t, "Family", e, api.OK)
		if l.ended && f.State == api.Active || f.Created != l.created {
			c.t.Fatalf("it had ended: %#v", f)
		}
		if f.State != api.Active && !l.ended {
			l.ended = true
			w.lines[id] = l
			count++
		}
	}
	return count
}

// asks asks for all texts: at most one of a family is active, and none that has ended.
func (w witness) asks(c *course, now int) {
	active := map[int]string{}
	for _, text := range c.texts {
		a := introspect(text, now).do(c.x)
		if !a.info.Active {
			continue
		}
		id := a.info.Family
		if other, heard := active[id]; heard && other != text || w.lines[id].ended || c.x.Now() >= a.info.End || a.info.End > w.lines[id].created+w.lines[id].absolute {
			c.t.Fatalf("%s is active at %d: %#v, and %s, of %#v", text, c.x.Now(), a.info, other, w.lines[id])
		}
		active[id] = text
	}
}

// G7, P2: a death in each act of each of the calls that change something, with each set of sectors of the last block that was written: as it was, or as it would be, as a whole.
func TestLawEachActEachSector(t *testing.T) {
	t.Parallel()
	image, texts := faulty(t, fault{ids: 9})
	for _, next := range []call{
		issue("app", "ann", nil, 125, secret(30)), rotate("app", texts["fresh"], nil, 125, secret(30)), rotate("app", texts["reuse"], nil, 125, secret(30)),
		rotate("app", texts["expired"], nil, 125, secret(30)), revoke("app", texts["replay"], 125), revokeAll("bob", 125),
	} {
		t.Run(next.what, func(t *testing.T) {
			t.Parallel()
			turned, done := 0, false
			for act := 1; !done; act++ {
				b := image.twin(t)
				wantErrno(t, "Arm", b.d.Arm(act), api.OK)
				got := next.do(b.x)
				if done = !b.d.Dead(); done {
					continue
				}
				if !got.same(answer{errno: api.ErrDead}) {
					t.Fatalf("%s: %#v", next.what, got)
				}
				for _, sectors := range []int{0, 1, 2, 3, 127, 128, 254, 255} {
					turned += b.crashed(next, act, sectors)
				}
			}
			if turned != 4 { // the head's first sector alone says which one counts
				t.Fatalf("%d crashes have let the change stand", turned)
			}
		})
	}
}

// crashed is that behind a crash which keeps all that is pending, but of the last block only some sectors, stands what was, or what would be: 1 of that.
func (b *both) crashed(next call, act, sectors int) int {
	b.t.Helper()
	other := loaded(b.t, b.d.Blocks())
	var keep []api.Keep
	for n, w := range b.d.Pending() {
		wantErrno(b.t, "Write", other.Write(w.Block, w.Data), api.OK)
		keep = append(keep, api.Keep{N: n, Sectors: 255})
	}
	if len(keep) > 0 {
		keep[len(keep)-1].Sectors = sectors
	}
	wantErrno(b.t, "Crash", other.Crash(keep), api.OK)
	what := fmt.Sprintf("%s, act %d, sectors %d", next.what, act, sectors)
	if opened(b.t, other).Pager().Generation() == b.x.Pager().Generation() {
		wantStands(b.t, what+": as it was", other, b.b)
		return 0
	}
	would := b.b.copied()
	next.book(would)
	wantStands(b.t, what+": as it would be", other, would)
	return 1
}

// R4, P1: rows of calls on small disks: what has no room changes nothing.
func TestLawSmallDisks(t *testing.T) {
	t.Parallel()
	for seed := range 8 {
		t.Run(fmt.Sprint(seed), func(t *testing.T) {
			t.Parallel()
			c := newCourse(t, 11+2*seed, 300+seed)
			full := 0
			for range 150 {
				next := c.next()
				was, before := c.b.copied(), c.state()
				want := next.book(c.b)
				got := next.do(c.x)
				if got.errno == api.ErrPagerFull && c.b.commits > was.commits {
					now := c.b.now
					c.b = was
					c.b.now = now
					if after := c.state(); after != before || !got.same(answer{errno: api.ErrPagerFull}) {
						t.Fatalf("%s: %#v, %d acts", next.what, got, after.acts-before.acts)
					}
					full++
				} else if !got.same(want) {
					t.Fatalf("%s: %#v, want %#v", next.what, got, want)
				}
				c.look(next.what)
			}
			if full == 0 && seed < 5 {
				t.Errorf("the test is wrong: there is always room")
			}
		})
	}
}
