package code_test

import (
	"fmt"
	"math/rand"
	"slices"
	"testing"

	"latchkey/api"
	"latchkey/disk"
	"latchkey/grant"
	"latchkey/table"
	"latchkey/trail"
)

// drawn is one of some.
func drawn[T any](r *rand.Rand, l ...T) T { return l[r.Intn(len(l))] }

// lawClients are app, whose families are short, web, whose are long, and off.
func lawClients() []api.Client {
	l := three()
	l[2].Idle, l[2].Absolute, l[2].Grace = 200, 600, 40
	return l
}

// lawVerifiers are those of which challenges are told.
func lawVerifiers() []string { return []string{v, w, longV, verifier(1), verifier(2)} }

// course is a row of calls at random on a table, with all texts that were ever told.
type course struct {
	*both
	r       *rand.Rand
	calm    bool // the time hardly goes on
	secrets int
	texts   []string  // of codes
	tokens  []string  // of families
	kept    api.Chain // the trail's ends, as they were behind the last answer
}

func newCourse(t *testing.T, blocks, seed int) *course {
	t.Helper()
	b := founded(t, blocks, 1, 0, lawClients()...)
	return &course{both: b, r: rand.New(rand.NewSource(int64(seed))), calm: seed%2 == 1, kept: b.b.everything().chain}
}

// secret is most often a new one.
func (c *course) secret() string {
	if c.r.Intn(25) == 0 {
		return drawn(c.r, "", many(23, "s"), many(25, "s"), secret(1), secret(2), many(24, "\x00"))
	}
	c.secrets++
	return secret(c.secrets)
}

// reading is most often a little later than the time.
func (c *course) reading() int {
	if c.calm && c.r.Intn(4) > 0 {
		return c.b.now
	}
	switch c.r.Intn(80) {
	case 0:
		return drawn(c.r, least, -1, 0, c.b.now-1)
	case 1:
		return c.b.now + c.r.Intn(200)
	}
	return c.b.now + drawn(c.r, -3, 0, 0, 0, 0, 0, 0, 1, 1, 2, 3)
}

func (c *course) scope() []string {
	if c.r.Intn(12) == 0 {
		return drawn(c.r, wrongScopes()...)
	}
	return drawn(c.r, nil, nil, nil, names(), names("read"), names("write"), names("read", "write"), names("admin"))
}

// text is most often a code's that stands; of these, most often one that is Fresh.
func (c *course) text() string {
	all := c.b.slipTexts()
	var fresh []string
	for _, id := range c.b.slipIDs() {
		if s := c.b.slips[id]; s.family == 0 {
			fresh = append(fresh, s.text())
		}
	}
	switch n := c.r.Intn(30); {
	case n == 0 || len(all) == 0:
		return drawn(c.r, "", "x", textOf("lkc_", 1+c.r.Intn(40), secret(c.r.Intn(40))), textOf("lkr_", 1+c.r.Intn(40), secret(1)))
	case n == 1:
		text := []byte(drawn(c.r, all...))
		text[c.r.Intn(len(text))] ^= byte(1 + c.r.Intn(255))
		return string(text)
	case n < 6 && len(c.texts) > 0: // also such as were never committed, or are gone
		return drawn(c.r, c.texts...)
	case n < 22 && len(fresh) > 0:
		return drawn(c.r, fresh...)
	}
	return drawn(c.r, all...)
}

// shower is most often the client whose text that is.
func (c *course) shower(text string) string {
	if s, there := c.b.slipOf(text); there && c.r.Intn(12) > 0 {
		return s.client
	}
	if l, g := c.b.find(text); g > 0 && c.r.Intn(8) > 0 {
		return l.client
	}
	return drawn(c.r, "app", "web", "off", "gone", "App", "")
}

// verifier is most often the one of which the text's challenge is.
func (c *course) verifier(text string) string {
	if s, there := c.b.slipOf(text); there && c.r.Intn(4) > 0 {
		for _, shown := range lawVerifiers() {
			if digestOf(shown) == s.challenge {
				return shown
			}
		}
	}
	return drawn(c.r, append(lawVerifiers(), "", v[1:], v+"+")...)
}

// challenge is most often one.
func (c *course) challenge() string {
	if c.r.Intn(20) == 0 {
		return drawn(c.r, "", ofV+"=", ofV[1:], v, challengeOf("x"))
	}
	return challengeOf(drawn(c.r, lawVerifiers()...))
}

func (c *course) life() int {
	return drawn(c.r, 20, 20, 30, 30, 60, 60, 10, 5, 3, 1, 0, -1, least, 200, 200)
}

func (c *course) subject() string {
	if c.r.Intn(20) == 0 {
		return drawn(c.r, "an", "Ann", "")
	}
	return drawn(c.r, "ann", "ann", "ann", "bob", "bob", "eve", many(16, "z"))
}

// token is one that was told.
func (c *course) token() string {
	if len(c.tokens) == 0 {
		return "x"
	}
	return c.tokens[max(0, len(c.tokens)-1-c.r.Intn(8))]
}

// next is one of the calls, drawn for what there is.
func (c *course) next() call {
	text, token := c.text(), c.token()
	switch n := c.r.Intn(40); {
	case n < 16:
		return approve(drawn(c.r, "app", "app", "app", "app", "app", "web", "web", "web", "web", "off", "gone"), c.subject(), c.scope(), c.challenge(), c.life(), c.reading(), c.secret())
	case n < 32:
		return redeem(c.shower(text), text, c.verifier(text), c.reading(), c.secret())
	case n < 33:
		return issue("web", c.subject(), nil, c.reading(), c.secret())
	case n < 35:
		return rotate(c.shower(token), token, nil, c.reading(), c.secret())
	case n < 36:
		return revoke(c.shower(token), token, c.reading())
	case n < 37:
		return revokeAll(c.subject(), c.reading())
	case n < 38:
		return turn(drawn(c.r, "app", "web", "off", "gone"), c.r.Intn(5) == 0, c.reading())
	}
	return introspect(token, c.reading())
}

// change is a call that changes something, most often.
func (c *course) change() call {
	var fresh, used []slip
	for _, id := range c.b.slipIDs() {
		switch s := c.b.slips[id]; {
		case s.family != 0 && c.b.lines[s.family].state == api.Active:
			used = append(used, s)
		case s.family == 0 && !s.over(c.b.now):
			fresh = append(fresh, s)
		}
	}
	switch n := c.r.Intn(10); {
	case n < 5 && len(fresh) > 0:
		s := drawn(c.r, fresh...)
		for _, shown := range lawVerifiers() {
			if digestOf(shown) == s.challenge {
				return redeem(s.client, s.text(), shown, c.b.now, c.secret())
			}
		}
	case n < 8 && len(used) > 0:
		s := drawn(c.r, used...)
		return redeem(s.client, s.text(), "", c.reading(), c.secret())
	}
	return approve(drawn(c.r, "app", "web"), drawn(c.r, "ann", "bob", "eve"), nil, c.challenge(), c.life(), c.reading(), c.secret())
}

// heard keeps what an answer tells.
func (c *course) heard(a answer) {
	if a.text != "" {
		c.texts = append(c.texts, a.text)
	}
	if a.issued.Token != "" {
		c.tokens = append(c.tokens, a.issued.Token)
	}
}

// trail reads the trail: it is the book's, it leads from the one end to the other, and it goes on from where it was.
func (c *course) trail(what string) {
	c.t.Helper()
	chain, events, errno := trail.Read(c.x)
	want := c.b.everything()
	if errno != api.OK || chain != want.chain || !slices.Equal(events, want.events) {
		c.t.Fatalf("%s: the trail is %x, %v, %d; want %x, %v", what, chain, events, errno, want.chain, want.events)
	}
	wantErrno(c.t, what+": Verify", trail.Verify(chain, events), api.OK)
	if chain.Next-c.kept.Next <= 32 {
		wantErrno(c.t, what+": Goes", trail.Goes(c.kept, chain, events), api.OK)
	}
	c.kept = chain
}

// someBegunAnywhere are things that somebody may have begun on any table.
func someBegunAnywhere() []func(x *table.Table) {
	return []func(x *table.Table){
		func(x *table.Table) { x.ID() },
		func(x *table.Table) { x.PutClient(someClient("gone")) },
		func(x *table.Table) { trail.Note(x, api.EventKey, 0, "") },
		func(x *table.Table) { x.Remove(2) },
		func(x *table.Table) {
			l, _ := x.Codes()
			for _, k := range l {
				x.RemoveCode(k.ID)
			}
		},
		func(x *table.Table) { grant.Begin(x, "web", "ann", nil, 3, secret(1)) },
		func(x *table.Table) {
			x.PutKey(api.Key{Number: 1, Secret: secret(1)})
			x.PutChain(api.Chain{Base: lastID, Next: lastID + 1, BaseHash: digestOf("a"), NextHash: digestOf("b")})
		},
	}
}

// row makes so many calls, with that many deaths in a hundred of them.
func (c *course) row(calls, deaths int) (died, turned int, answers map[api.Errno]int) {
	c.t.Helper()
	answers = map[api.Errno]int{}
	begun := someBegunAnywhere()
	for range calls {
		if c.r.Intn(8) == 0 {
			drawn(c.r, begun...)(c.x)
		}
		next := c.next()
		if c.r.Intn(100) >= deaths {
			a := c.quick(next)
			c.heard(a)
			answers[a.errno]++
		} else {
			if c.r.Intn(3) > 0 {
				next = c.change()
			}
			dies, there := c.dies(next)
			if dies {
				died++
			}
			if there {
				turned++
			}
		}
		c.trail(next.what)
		switch c.r.Intn(60) {
		case 0, 1, 2, 3:
			c.look("in between")
		case 4:
			c.reopen()
		}
	}
	c.look("behind all")
	return died, turned, answers
}

// keepOf is what stays behind a crash, drawn.
func keepOf(r *rand.Rand, d *disk.Disk) []api.Keep {
	var l []api.Keep
	for n := range d.Pending() {
		if r.Intn(6) > 0 {
			l = append(l, api.Keep{N: n, Sectors: drawn(r, 0, 255, r.Intn(256), 1<<r.Intn(8), 255^1<<r.Intn(8))})
		}
	}
	return l
}

// actsOf is how many acts a call does.
func (c *course) actsOf(next call) int {
	d := loaded(c.t, c.d.Blocks())
	x := opened(c.t, d)
	x.See(c.x.Now())
	next.do(x)
	return d.Acts()
}

// dies makes a call on a disk that dies in one of its acts, if it does one, often in the last one; then whatever stays is opened. It says whether the disk died, and whether the change is there then.
func (c *course) dies(next call) (died, there bool) {
	c.t.Helper()
	was, before := c.b.copied(), c.x.Pager().Generation()
	if acts := c.actsOf(next); acts > 0 {
		wantErrno(c.t, "Arm", c.d.Arm(drawn(c.r, acts, 1+c.r.Intn(acts), acts+1)), api.OK)
	}
	want := next.book(c.b)
	got := next.do(c.x)
	if died = c.d.Dead(); !died {
		if !got.same(want) {
			c.t.Fatalf("%s: %#v, want %#v", next.what, got, want)
		}
		wantErrno(c.t, "Arm", c.d.Arm(0), api.OK)
		c.heard(got)
		c.glance(next.what)
		return false, false
	}
	if !got.same(answer{errno: api.ErrDead}) || c.b.commits == was.commits {
		c.t.Fatalf("%s: it died, and answered %#v; want %#v", next.what, got, want)
	}
	c.wantRefused(redeem("app", "x", v, 0, secret(1)), api.ErrDead)
	wantErrno(c.t, "Crash", c.d.Crash(keepOf(c.r, c.d)), api.OK)
	c.wantRefused(approve("app", "ann", nil, ofV, 30, 0, secret(1)), api.ErrDead) // in doubt until it is opened anew
	c.heard(want)                                                                 // somebody may guess it
	c.x = opened(c.t, c.d)
	if there = c.x.Pager().Generation() > before; !there {
		c.b = was
	}
	c.b.now = c.b.noted
	c.look(next.what + ", behind a death")
	return true, there
}

// C4, P1: rows of calls at random, each held against the book; tables opened anew in between; things begun that are forgotten.
func TestLawRows(t *testing.T) {
	t.Parallel()
	all := make(chan map[api.Errno]int, 8)
	t.Run("rows", func(t *testing.T) {
		for seed := range 8 {
			t.Run(fmt.Sprint(seed), func(t *testing.T) {
				t.Parallel()
				_, _, answers := newCourse(t, 400, seed).row(400, 0)
				all <- answers
			})
		}
	})
	close(all)
	sum := map[api.Errno]int{}
	for answers := range all {
		for errno, n := range answers {
			sum[errno] += n
		}
	}
	for _, errno := range []api.Errno{
		api.OK, api.ErrArg, api.ErrClientNone, api.ErrClientOff, api.ErrGrantToken, api.ErrGrantScope, api.ErrGrantMany, api.ErrCodeToken, api.ErrCodeVerify, api.ErrCodeMany,
	} {
		if sum[errno] < 20 && !t.Failed() {
			t.Errorf("the test is wrong: hardly anything answers %d: %v", errno, sum)
		}
	}
}

// C4, P2: rows of calls at random, with deaths in any act, and crashes that keep any sectors.
func TestLawDeaths(t *testing.T) {
	t.Parallel()
	for seed := range 8 {
		t.Run(fmt.Sprint(seed), func(t *testing.T) {
			t.Parallel()
			died, turned, answers := newCourse(t, 400, 100+seed).row(240, 50)
			if died < 30 || turned < 2 || turned == died || answers[api.OK] == 0 {
				t.Errorf("the test is wrong: %d deaths, behind %d of them the change is there; %v", died, turned, answers)
			}
		})
	}
}

// promise is what is known of a code from what was asked alone: who may redeem it, by which verifier, ahead of when; the family that came of it, as it was answered; whether that must have ended.
type promise struct {
	client, verifier string
	until            int
	family           int
	ended            bool
}

// witness has heard nothing but what was asked and answered, and holds the theorem against that. Beside it stands what could be shown: each text, given or not.
type witness struct {
	*course
	codes  map[string]promise
	tokens map[string]int // the family that each was told to be of
}

// C4: what the answers alone show, over deaths: of each code one family at most, ahead of its Until, by its client and its verifier; shown again it ends that, for good; a text that was never given begins nothing.
func TestLawWitness(t *testing.T) {
	t.Parallel()
	for seed := range 8 {
		t.Run(fmt.Sprint(seed), func(t *testing.T) {
			t.Parallel()
			c := &witness{newCourse(t, 600, 200+seed), map[string]promise{}, map[string]int{}}
			redeemed, ended, died := 0, 0, 0
			for range 500 {
				if c.r.Intn(6) == 0 {
					wantErrno(t, "Arm", c.d.Arm(1+c.r.Intn(12)), api.OK)
				}
				began, ends := c.step()
				redeemed, ended = redeemed+began, ended+ends
				if !c.d.Dead() {
					wantErrno(t, "Arm", c.d.Arm(0), api.OK)
					continue
				}
				died++
				wantErrno(t, "Crash", c.d.Crash(keepOf(c.r, c.d)), api.OK)
				c.x = opened(t, c.d)
				c.holds("behind a crash")
			}
			c.holds("behind all")
			if redeemed < 30 || ended < 10 || died < 20 {
				t.Errorf("the test is wrong: %d redeemed, %d ended, %d deaths", redeemed, ended, died)
			}
		})
	}
}

// step makes one call, and hears of it.
func (c *witness) step() (redeemed, ended int) {
	c.t.Helper()
	now := c.x.Now() + drawn(c.r, -5, 0, 0, 0, 0, 1, 1, 1, 2)
	client := drawn(c.r, "app", "web")
	switch n := c.r.Intn(20); {
	case n < 7:
		c.approves(client, now)
	case n < 18:
		return c.redeems(client, now)
	case n < 19:
		token := c.course.token()
		if a := rotate(client, token, nil, now, c.newSecret()).do(c.x); a.errno == api.OK {
			c.tokens[a.issued.Token] = a.issued.Family
			c.course.heard(a)
		}
	default:
		c.holds("in between")
	}
	return 0, 0
}

// newSecret is one that no text has yet.
func (c *witness) newSecret() string {
	c.secrets++
	return secret(c.secrets)
}

// approves asks for a code. What was not answered may have been committed, so its text counts as given.
func (c *witness) approves(client string, now int) {
	c.t.Helper()
	shown, life, s := drawn(c.r, lawVerifiers()...), drawn(c.r, 30, 20, 10, 5, 1, 0, -3), c.newSecret()
	d := loaded(c.t, c.d.Blocks())
	probe := opened(c.t, d)
	id, errno := probe.ID()
	wantErrno(c.t, "ID", errno, api.OK)
	text := textOf("lkc_", id, s)
	a := approve(client, fmt.Sprint("s", c.r.Intn(12)), nil, challengeOf(shown), life, now, s).do(c.x)
	if a.errno == api.OK && a.text != text {
		c.t.Fatalf("%q, want %q", a.text, text)
	}
	if a.errno == api.OK || a.errno == api.ErrDead {
		c.codes[text] = promise{client: client, verifier: shown, until: min(c.x.Now()+max(life, 0), lastTime)}
		c.texts = append(c.texts, text)
	}
}

// redeems shows a text, which was given or not.
func (c *witness) redeems(client string, now int) (redeemed, ended int) {
	c.t.Helper()
	text := textOf("lkc_", 1+c.r.Intn(60), secret(1+c.r.Intn(60)))
	if len(c.texts) > 0 && c.r.Intn(10) > 0 {
		text = c.texts[max(0, len(c.texts)-1-c.r.Intn(12))]
	}
	k, given := c.codes[text]
	shown := drawn(c.r, lawVerifiers()...)
	if given && c.r.Intn(3) > 0 {
		client, shown = k.client, k.verifier
	}
	a := redeem(client, text, shown, now, c.newSecret()).do(c.x)
	switch {
	case a.errno == api.OK:
		if !given || k.family != 0 || k.client != client || k.verifier != shown || c.x.Now() >= k.until {
			c.t.Fatalf("%q by %s with %q at %d: %#v, of %#v, %v", text, client, shown, c.x.Now(), a, k, given)
		}
		k.family = a.issued.Family
		c.codes[text], c.tokens[a.issued.Token] = k, k.family
		c.course.heard(a)
		return 1, 0
	case a.errno == api.ErrCodeToken && given && k.client == client && k.family != 0:
		if !k.ended {
			ended = 1
		}
		k.ended = true
		c.codes[text] = k
	}
	return 0, ended
}

// holds is that of each code there is at most one family, and that of those that must have ended none is alive, or has a token that is told active.
func (c *witness) holds(what string) {
	c.t.Helper()
	ids, errno := c.x.Ending(most, most)
	wantErrno(c.t, "Ending", errno, api.OK)
	of := map[int]int{}
	for _, id := range ids {
		f, errno := c.x.Family(id)
		wantErrno(c.t, "Family", errno, api.OK)
		k, errno := c.x.Code(f.Code)
		if of[f.Code]++; of[f.Code] > 1 || errno != api.OK || k.Family != id || k.State != api.CodeSpent || f.Created >= k.Until {
			c.t.Fatalf("%s: the family %#v of the code %#v, %d", what, f, k, errno)
		}
	}
	ended := map[int]int{}
	for text, k := range c.codes {
		f, errno := c.x.Family(max(k.family, 1))
		if k.family != 0 && (errno != api.OK || f.Client != k.client || k.ended && f.State == api.Active) {
			c.t.Fatalf("%s: %q, %#v: %#v, %d", what, text, k, f, errno)
		}
		if k.ended {
			ended[k.family]++
		}
	}
	for token, id := range c.tokens {
		if a := introspect(token, 0).do(c.x); a.info.Active && (ended[id] > 0 || a.info.Family != id) {
			c.t.Fatalf("%s: %s of the family %d is active", what, token, id)
		}
	}
}

// C4, P2: a death in each act of each of the calls that change something, with each set of sectors of the last block that was written: as it was, or as it would be, as a whole.
func TestLawEachActEachSector(t *testing.T) {
	t.Parallel()
	image, texts := faulty(t, fault{ids: 9})
	for _, next := range []call{
		approve("app", "ann", nil, ofV, 30, 125, secret(30)), approve("web", "bob", names("read"), ofW, 30, 400, secret(30)), redeem("app", texts["good"], v, 125, secret(30)),
		redeem("app", texts["spent"], v, 125, secret(30)), redeem("app", texts["expired"], "", 125, secret(30)),
	} {
		t.Run(next.what, func(t *testing.T) {
			t.Parallel()
			turned, done := 0, false
			for act := 1; !done; act++ {
				b := image.twin(t)
				wantErrno(t, "Arm", b.d.Arm(act), api.OK)
				got := next.do(b.x)
				if done = !b.d.Dead(); done {
					continue
				}
				if !got.same(answer{errno: api.ErrDead}) {
					t.Fatalf("%s: %#v", next.what, got)
				}
				for _, sectors := range []int{0, 1, 2, 3, 127, 128, 254, 255} {
					turned += b.crashed(next, act, sectors)
				}
			}
			if turned != 4 { // the head's first sector alone says which one counts
				t.Fatalf("%d crashes have let the change stand", turned)
			}
		})
	}
}

// crashed is that behind a crash which keeps all that is pending, but of the last block only some sectors, stands what was, or what would be: 1 of that.
func (b *both) crashed(next call, act, sectors int) int {
	b.t.Helper()
	other := loaded(b.t, b.d.Blocks())
	var keep []api.Keep
	for n, w := range b.d.Pending() {
		wantErrno(b.t, "Write", other.Write(w.Block, w.Data), api.OK)
		keep = append(keep, api.Keep{N: n, Sectors: 255})
	}
	if len(keep) > 0 {
		keep[len(keep)-1].Sectors = sectors
	}
	wantErrno(b.t, "Crash", other.Crash(keep), api.OK)
	what := fmt.Sprintf("%s, act %d, sectors %d", next.what, act, sectors)
	if opened(b.t, other).Pager().Generation() == b.x.Pager().Generation() {
		wantStands(b.t, what+": as it was", other, b.b)
		return 0
	}
	would := b.b.copied()
	next.book(would)
	wantStands(b.t, what+": as it would be", other, would)
	return 1
}

// R4, P1: rows of calls on small disks: what has no room changes nothing.
func TestLawSmallDisks(t *testing.T) {
	t.Parallel()
	for seed := range 8 {
		t.Run(fmt.Sprint(seed), func(t *testing.T) {
			t.Parallel()
			c := newCourse(t, 11+2*seed, 300+seed)
			full := 0
			for range 150 {
				next := c.next()
				was, before := c.b.copied(), c.state()
				want := next.book(c.b)
				got := next.do(c.x)
				if got.errno == api.ErrPagerFull && c.b.commits > was.commits {
					now := c.b.now
					c.b = was
					c.b.now = now
					if after := c.state(); after != before || !got.same(answer{errno: api.ErrPagerFull}) {
						t.Fatalf("%s: %#v, %d acts", next.what, got, after.acts-before.acts)
					}
					full++
				} else if !got.same(want) {
					t.Fatalf("%s: %#v, want %#v", next.what, got, want)
				}
				c.look(next.what)
			}
			if full == 0 && seed < 5 {
				t.Errorf("the test is wrong: there is always room")
			}
		})
	}
}
