package access_test

import (
	"fmt"
	"math/rand"
	"slices"
	"testing"

	"latchkey/access"
	"latchkey/api"
	"latchkey/grant"
	"latchkey/sweep"
)

// paper is an access token that was signed for a family that was alive then.
type paper struct {
	s      string
	number int
	claims api.Claims
}

// course is a row of calls at random on a table: keys that are made, families that the layers below begin and end, tokens that are signed and shown, each of which is held against the model; and beside that what the promises say of all of them.
type course struct {
	*both
	r       *rand.Rand
	clock   int // the greatest reading: none that follows is below it
	secrets int
	tokens  []string
	papers  []paper
	given   []int       // the Numbers that were answered
	sure    map[int]int // up to when what a key signed is taken, at least: by Numbers
	over    map[int]int // when it was first told that a family has ended: by IDs
	count   map[string]int
}

func newCourse(t *testing.T, seed int) *course {
	t.Helper()
	b := founded(t, 200, 0, layClient(app()), laySee(100))
	return &course{both: b, r: rand.New(rand.NewSource(int64(seed))), clock: 100, sure: map[int]int{}, over: map[int]int{}, count: map[string]int{}}
}

func (c *course) reading() int {
	c.clock += drawn(c.r, 0, 0, 0, 0, 1, 1, 2, c.r.Intn(8))
	return c.clock
}

func (c *course) secret() string {
	c.secrets++
	return secret(c.secrets)
}

// keep is how long the key ahead counts; most often so short that there is room for another one.
func (c *course) keep() int { return drawn(c.r, 0, 5, 10, 30, 50, 70, 100, 200, -1, least) }

// made is a key that was made: its Number is a new one, and what the one ahead of it signed is sure for keep.
func (c *course) made(number, keep int) {
	c.t.Helper()
	if slices.Contains(c.given, number) {
		c.t.Fatalf("the Number %d is given twice", number)
	}
	c.given = append(c.given, number)
	for n, until := range c.sure {
		if until == most {
			c.sure[n] = c.b().now + max(keep, 0)
		}
	}
	c.sure[number] = most
}

func (c *course) b() *everything { return &c.both.e }

// key asks for a key.
func (c *course) key() {
	c.t.Helper()
	keep, s := c.keep(), c.secret()
	if c.r.Intn(20) == 0 {
		s = "short"
	}
	n, errno := c.newKey(s, keep, c.reading())
	if errno == api.OK {
		c.made(n, keep)
	}
	c.count[fmt.Sprint("NewKey ", errno)]++
	if l := len(c.e.keys); l > 4 {
		c.t.Fatalf("there are %d keys", l)
	}
}

// dying asks for a key on a disk that dies in one of the acts, most often; and opens what has stayed.
func (c *course) dying() {
	c.t.Helper()
	keep, s, now := c.keep(), c.secret(), c.reading()
	was, would, generation := c.e, c.e, c.x.Pager().Generation()
	number, _ := would.NewKey(s, keep, now)
	if acts := c.acts(s, keep, now); acts > 0 {
		wantErrno(c.t, "Arm", c.d.Arm(drawn(c.r, acts, 1+c.r.Intn(acts), acts+1)), api.OK)
	}
	n, errno := access.NewKey(c.x, s, keep, now)
	if !c.d.Dead() {
		wantErrno(c.t, "Arm", c.d.Arm(0), api.OK)
		if c.e = would; n != number {
			c.t.Fatalf("NewKey: %d, %d; want %d", n, errno, number)
		}
		if errno == api.OK {
			c.made(n, keep)
		}
		return
	}
	if n != 0 || errno != api.ErrDead {
		c.t.Fatalf("it died: %d, %d", n, errno)
	}
	c.dead(example, now)
	c.d = crashed(c.t, c.d, drawn(c.r, 0, 1, 255, c.r.Intn(256)), c.r)
	if c.e = was; wantEither(c.t, "behind a death", c.d, generation, was, would) {
		c.e = would
		c.made(number, keep) // nobody was told, but it is there
		c.count["died, and there"]++
	}
	c.count["died"]++
	c.reopen()
}

// acts is how many acts it takes to make a key.
func (c *course) acts(s string, keep, now int) int {
	d := loaded(c.t, c.d.Blocks())
	x := opened(c.t, d)
	x.See(c.x.Now())
	access.NewKey(x, s, keep, now)
	return d.Acts()
}

// below is a call of the layers below.
func (c *course) below() {
	c.t.Helper()
	now, subject := c.reading(), drawn(c.r, "ann", "bob", "eve")
	var a api.Issued
	errno := api.OK
	switch n := c.r.Intn(12); {
	case n < 5 || len(c.tokens) == 0:
		a, errno = grant.Issue(c.x, "app", subject, nil, now, c.secret())
	case n < 8:
		a, errno = grant.Rotate(c.x, "app", drawn(c.r, c.tokens[max(0, len(c.tokens)-4):]...), nil, now, c.secret())
	case n < 10:
		errno = grant.Revoke(c.x, "app", drawn(c.r, c.tokens...), now)
	case n < 11:
		_, errno = grant.RevokeAll(c.x, subject, now)
	default:
		_, errno = sweep.Run(c.x, drawn(c.r, 0, 10), 16, now)
	}
	keys := c.e.keys
	if c.asked(); !slices.Equal(keys, c.e.keys) {
		c.t.Fatal("other keys")
	}
	if errno == api.OK && a.Token != "" {
		c.tokens = append(c.tokens, a.Token)
		c.sign(a)
	}
	c.ends()
}

// sign signs a token for what was issued, by the key that signs at the time.
func (c *course) sign(a api.Issued) {
	c.t.Helper()
	k, is := access.Current(c.e.keys, c.e.now)
	want, there := currentOf(c.e.keys, c.e.now)
	if k != want || is != there {
		c.t.Fatalf("Current(%v, %d): %v, %v", c.e.keys, c.e.now, k, is)
	}
	if len(c.given) > 0 && k.Number != c.given[len(c.given)-1] {
		c.t.Fatalf("the key %d signs, %d was made last", k.Number, c.given[len(c.given)-1])
	}
	if !is {
		return
	}
	claimed := api.Claims{
		Client: "app", Subject: a.Subject, Scope: a.Scope, Family: a.Family, Number: c.secrets, Issued: c.e.now, End: c.e.now + a.Life,
	}
	c.papers = append(c.papers, paper{wantSign(c.t, k, "home", claimed), k.Number, claimed})
}

// ends notes which families are alive no more.
func (c *course) ends() {
	for _, p := range c.papers {
		if _, is := c.over[p.claims.Family]; !is && !c.e.isAlive(p.claims.Family) {
			c.over[p.claims.Family] = c.e.now
		}
	}
}

// show shows a token, most often one of the last ones: to whoever has the keys, and to the table.
func (c *course) show() {
	c.t.Helper()
	if len(c.papers) == 0 {
		return
	}
	p := c.papers[c.r.Intn(len(c.papers))]
	if c.r.Intn(3) > 0 {
		p = c.papers[max(0, len(c.papers)-1-c.r.Intn(8))]
	}
	now := c.reading()
	active := c.worth("home", p.s, now)
	c.ends()
	errno := wantVerify(c.t, c.e.keys, "home", p.s, now)
	c.count[fmt.Sprint("Verify ", errno)]++
	if active {
		c.count["worth something"]++
	}
	at, over := c.over[p.claims.Family]
	switch {
	case now < p.claims.End && now < c.sure[p.number] && errno != api.OK:
		c.t.Fatalf("at %d the key %d is sure up to %d, and this is refused: %#v", now, p.number, c.sure[p.number], p.claims)
	case (now >= p.claims.End || now >= c.sure[p.number]) && errno == api.OK:
		c.t.Fatalf("at %d the key %d is sure up to %d, and this is taken: %#v", now, p.number, c.sure[p.number], p.claims)
	case over && active:
		c.t.Fatalf("at %d: the family of %#v has ended by %d, and this is worth something", now, p.claims, at)
	case over && now >= at+app().Life && errno == api.OK:
		c.t.Fatalf("at %d: the family of %#v has ended by %d, and this is let in", now, p.claims, at)
	}
	c.forged(p, now)
}

// forged is that what was signed, with something changed in it, is not taken, unless it says the very same.
func (c *course) forged(p paper, now int) {
	c.t.Helper()
	s := mangled(c.r, p.s)
	if errno := wantVerify(c.t, c.e.keys, "home", s, now); errno == api.OK && s != p.s {
		c.t.Fatalf("Verify takes %q, which nobody has signed", s)
	}
	if c.worth("home", s, now) && s != p.s {
		c.t.Fatalf("Worth takes %q, which nobody has signed", s)
	}
}

// A5 to A7, P4, P11: rows of calls at random, with deaths, and tables opened anew.
func TestLawRows(t *testing.T) {
	t.Parallel()
	counts := make(chan map[string]int, 8)
	t.Run("rows", func(t *testing.T) {
		for seed := range cap(counts) {
			t.Run(fmt.Sprint(seed), func(t *testing.T) {
				t.Parallel()
				c := newCourse(t, seed)
				for range 400 {
					switch n := c.r.Intn(100); {
					case n < 8:
						c.key()
					case n < 12:
						c.dying()
					case n < 45:
						c.below()
					case n < 97:
						c.show()
					default:
						c.reopen()
					}
				}
				c.look("behind all")
				counts <- c.count
			})
		}
	})
	close(counts)
	sum := map[string]int{}
	for count := range counts {
		for what, n := range count {
			sum[what] += n
		}
	}
	for _, what := range []string{"NewKey 0", "NewKey 1", "NewKey 234", "Verify 0", "Verify 231", "Verify 233", "worth something", "died", "died, and there"} {
		if sum[what] < 10 && !t.Failed() {
			t.Errorf("the test is wrong: %v", sum)
		}
	}
}

// A7: what is signed is taken just if now is ahead of the key's Until and of End, and not ahead of Issued, and Issued is not ahead of From; whatever else is among the keys.
func TestLawTaken(t *testing.T) {
	r := rand.New(rand.NewSource(6))
	taken := 0
	for range 20000 {
		from := r.Intn(30)
		k := api.Key{Number: 1 + r.Intn(3), Secret: secret(r.Intn(3)), From: from, Until: drawn(r, from+r.Intn(40), lastTime)}
		c := claims()
		c.Issued = r.Intn(40)
		c.End = c.Issued + r.Intn(30)
		s, errno := access.Sign(k, "home", c)
		wantErrno(t, "Sign", errno, api.OK)
		l := []api.Key{k}
		for range r.Intn(3) { // others ahead of it, and any behind it
			l = append(l, api.Key{Number: r.Intn(5), Secret: secret(r.Intn(3)), Until: lastTime})
			if first := (api.Key{Number: 4 + r.Intn(3), Secret: secret(r.Intn(3)), Until: lastTime}); r.Intn(2) == 0 {
				l = append([]api.Key{first}, l...)
			}
		}
		now := drawn(r, r.Intn(80), c.Issued, c.End, k.Until, k.From)
		got, errno := access.Verify(l, "home", s, now)
		want := now < k.Until && now < c.End && now >= c.Issued && c.Issued >= k.From
		if (errno == api.OK) != want || want && !same(got, c) {
			t.Fatalf("Verify(%v, %#v, %d): %#v, %d", l, c, now, got, errno)
		}
		if want {
			taken++
		}
	}
	if taken < 1000 {
		t.Fatalf("the test is wrong: %d were taken", taken)
	}
}

// A7, P6: whatever is taken is what Sign makes of the claims that are told, by a key of the list.
func TestLawSigned(t *testing.T) {
	r := rand.New(rand.NewSource(7))
	taken := 0
	for range 30000 {
		k := api.Key{Number: 1 + r.Intn(12), Secret: secret(1), From: 0, Until: lastTime}
		c := claims()
		c.Issued, c.End = 0, lastTime
		s := tokenOf(k.Number, k.Secret, "home", c)
		for range r.Intn(2) {
			s = mangled(r, s)
		}
		l := []api.Key{{Number: 1 + r.Intn(12), Secret: secret(2), Until: lastTime}, k}
		got, errno := access.Verify(l, "home", s, 50)
		if errno != api.OK {
			continue
		}
		taken++
		if again, errno := access.Sign(k, "home", got); again != s || errno != api.OK {
			t.Fatalf("Verify takes %q, Sign tells %q, %d", s, again, errno)
		}
	}
	if taken < 1000 {
		t.Fatalf("the test is wrong: %d were taken", taken)
	}
}

// A7: whatever keys are made at whatever readings: what Current tells is what was made last, the one ahead counts for keep, there are at most four, and no Number is given twice.
func TestLawKeys(t *testing.T) {
	t.Parallel()
	for seed := range 6 {
		t.Run(fmt.Sprint(seed), func(t *testing.T) {
			t.Parallel()
			r := rand.New(rand.NewSource(int64(40 + seed)))
			b := founded(t, 40, 0)
			last, made := 0, 0
			for range 250 {
				keep := drawn(r, 0, 0, 1, 1, 3, 3, 10, 20, -1, least)
				if r.Intn(30) == 0 {
					keep = drawn(r, lastTime, most)
				}
				reading := b.x.Now() + drawn(r, -5, 0, 0, 1, 1, 2, 5, 10, 30)
				if r.Intn(60) == 0 {
					reading = drawn(r, least, -1, 0)
				}
				if made > 100 && r.Intn(20) == 0 {
					reading = drawn(r, lastTime-r.Intn(50), lastTime, most)
				}
				n, errno := b.newKey(secret(r.Intn(5)), keep, reading)
				if r.Intn(8) == 0 {
					b.reopen()
				}
				if errno != api.OK {
					wantErrno(t, "NewKey", errno, api.ErrAccessMany)
					continue
				}
				if made++; n != last+1 || len(b.e.keys) > 4 {
					t.Fatalf("the key %d, behind %d; %v", n, last, b.e.keys)
				}
				if last = n; b.x.Now() < lastTime {
					wantCurrent(t, b.e.keys, b.x.Now(), b.e.keys[len(b.e.keys)-1])
				}
			}
			if made < 100 {
				t.Errorf("the test is wrong: %d keys were made", made)
			}
		})
	}
}

// P1: rows of calls on a small disk: what has no room changes nothing.
func TestLawSmallDisks(t *testing.T) {
	t.Parallel()
	for blocks := 8; blocks < 14; blocks++ {
		b := founded(t, blocks, 0)
		r := rand.New(rand.NewSource(int64(blocks)))
		full, made := 0, 0
		for n := range 120 {
			was, keep, now := b.e, drawn(r, 0, 2, 4), b.x.Now()+r.Intn(4)
			number, errno := was.NewKey(secret(n), keep, now)
			k, got := access.NewKey(b.x, secret(n), keep, now)
			switch {
			case got == api.ErrPagerFull && errno == api.OK && k == 0:
				b.e.see(now)
				full++
			case got == errno && k == number:
				b.e = was
				made++
			default:
				t.Fatalf("NewKey: %d, %d; want %d, %d", k, got, number, errno)
			}
			b.look("a small disk")
		}
		if made < 5 || full == 0 && blocks == 8 {
			t.Errorf("the test is wrong: %d blocks: %d times there was no room, %d calls were answered", blocks, full, made)
		}
	}
}
