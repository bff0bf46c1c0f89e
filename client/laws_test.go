package client_test

import (
	"fmt"
	"math/rand"
	"testing"

	"latchkey/api"
	"latchkey/disk"
)

// drawn is one of some.
func drawn[T any](r *rand.Rand, l ...T) T { return l[r.Intn(len(l))] }

// lawPassword is one that is given or shown, or none.
func lawPassword(r *rand.Rand) string {
	if r.Intn(3) > 0 {
		return drawn(r, p, q, many(16, "r"))
	}
	return drawn(r, p, q, many(16, "r"), many(64, "s"), many(40, "~"), p, q, "", "short", p[1:], many(65, "p"), p+" ")
}

func lawName(r *rand.Rand) string {
	return drawn(r, "app", "web", "a", "b", "c.1", "d-2", "e_3", many(16, "f"), "g", "app", "web", "a", "nobody", "App", "", many(17, "f"))
}

// lawReading is most often a little later than the time.
func lawReading(r *rand.Rand, now int) int {
	switch r.Intn(40) {
	case 0:
		return drawn(r, least, -1, 0, now-1)
	case 1:
		return now + r.Intn(1000)
	}
	return now + r.Intn(12) - 2
}

func lawKeep(r *rand.Rand) int {
	return drawn(r, 0, 1, 5, 10, 20, 20, 100, -1, least, most, lastTime)
}

func lawClient(r *rand.Rand) api.Client {
	c := someClient(lawName(r))
	c.Public, c.Off = r.Intn(4) == 0, r.Intn(5) == 0
	c.Scope = drawn(r, rightScopes()...)
	if r.Intn(8) == 0 {
		c.Scope = drawn(r, wrongScopes()...)
	}
	c.Idle, c.Absolute, c.Life, c.Grace = drawn(r, 1, 50, 50, lastTime), drawn(r, 1, 50, 50, lastTime), drawn(r, 1, 50, 50, lastTime), drawn(r, 0, 1, 50, lastTime)
	switch r.Intn(30) {
	case 0:
		c.Hash = digestOf(p)
	case 1:
		c.Old, c.Until = digestOf(p), 4
	case 2:
		c.Grace = drawn(r, -1, lastTime+1, least, most)
	case 3:
		c.Life = drawn(r, -1, 0, lastTime+1, least, most)
	}
	return c
}

// lawKnown is most often the name of a client that is there.
func lawKnown(r *rand.Rand, b *book) string {
	if l := b.records(); len(l) > 0 && r.Intn(5) > 0 {
		return drawn(r, l...).Name
	}
	return lawName(r)
}

// lawCall is one of the four, drawn for what there is.
func lawCall(r *rand.Rand, b *book) call {
	reading := lawReading(r, b.now)
	switch n := r.Intn(20); {
	case n < 4:
		c := lawClient(r)
		if c.Public && r.Intn(5) > 0 {
			return register(c, "", reading)
		}
		return register(c, lawPassword(r), reading)
	case n < 8:
		return renew(lawKnown(r, b), lawPassword(r), lawKeep(r), reading)
	case n < 11:
		return turn(lawKnown(r, b), r.Intn(3) == 0, reading)
	}
	return ask(lawKnown(r, b), lawPassword(r), reading)
}

// lawChange is a call that changes a client, if there is one.
func lawChange(r *rand.Rand, b *book) call {
	l := b.records()
	if len(l) == 0 {
		return register(app(), p, b.now)
	}
	c := drawn(r, l...)
	if !c.Public && r.Intn(2) == 0 {
		return renew(c.Name, drawn(r, p, q, many(16, "r")), lawKeep(r), lawReading(r, b.now))
	}
	return turn(c.Name, !c.Off, lawReading(r, b.now))
}

// C5: rows of calls at random, each held against the book; tables opened anew in between; things begun that are forgotten.
func TestLawRows(t *testing.T) {
	for seed := range 8 {
		t.Run(fmt.Sprint(seed), func(t *testing.T) {
			t.Parallel()
			r := rand.New(rand.NewSource(int64(seed)))
			b := newBoth(t, 64)
			begun := someBegun(t)
			answers := map[api.Errno]int{}
			for range 300 {
				if r.Intn(6) == 0 {
					drawn(r, begun...)(b.x)
				}
				answers[b.call(lawCall(r, b.b))]++
				if r.Intn(25) == 0 {
					b.reopen()
				}
			}
			for _, errno := range []api.Errno{api.OK, api.ErrClientField, api.ErrClientThere, api.ErrClientNone, api.ErrClientMany, api.ErrClientSecret, api.ErrClientOff} {
				if answers[errno] == 0 {
					t.Errorf("the test is wrong: nothing answers %d: %v", errno, answers)
				}
			}
		})
	}
}

// C5: all who are there, and all passwords, behind each step: the one that was given last, or the one ahead of it, and nobody else.
func TestLawWhoIsLetIn(t *testing.T) {
	for seed := range 4 {
		t.Run(fmt.Sprint(seed), func(t *testing.T) {
			t.Parallel()
			r := rand.New(rand.NewSource(int64(100 + seed)))
			b := newBoth(t, 64)
			for range 120 {
				b.call(lawCall(r, b.b))
				b.askAll()
			}
		})
	}
}

// askAll asks for each client with each password, at the time that it is.
func (b *both) askAll() {
	b.t.Helper()
	for name := range b.b.clients {
		for _, secret := range []string{p, q, many(16, "r"), many(64, "s"), many(40, "~"), "", "short"} {
			c := ask(name, secret, least)
			want, errno := c.book(b.b)
			b.answered(c, want, errno)
		}
	}
}

// keepOf is what stays behind a crash, drawn.
func keepOf(r *rand.Rand, d *disk.Disk) []api.Keep {
	var l []api.Keep
	for n := range d.Pending() {
		if r.Intn(6) > 0 {
			l = append(l, api.Keep{N: n, Sectors: drawn(r, 0, 255, r.Intn(256), 1<<r.Intn(8), 255^1<<r.Intn(8))})
		}
	}
	return l
}

// dies makes a call on a disk that dies in one of the next acts, if the call does so many; then whatever stays is opened. It says whether the disk died in the call's commit, and whether the change is there then.
func (b *both) dies(r *rand.Rand, c call, act int) (died, there bool) {
	b.t.Helper()
	was, before := b.b.copied(), b.x.Pager().Generation()
	wantErrno(b.t, "Arm", b.d.Arm(act), api.OK)
	want, errno := c.book(b.b)
	got, e := c.do(b.x)
	if died = b.d.Dead(); !died {
		if e != errno || !sameClient(got, want) {
			b.t.Fatalf("%s: %#v, %d; want %#v, %d", c.what, got, e, want, errno)
		}
		wantErrno(b.t, "Arm", b.d.Arm(0), api.OK)
		b.look(c.what)
		return false, false
	}
	if e != api.ErrDead || errno != api.OK || len(b.b.events) == len(was.events) || !sameClient(got, api.Client{}) {
		b.t.Fatalf("%s: it died, and answered %#v, %d; want %d", c.what, got, e, errno)
	}
	b.wantDead(ask("app", p, b.b.now))
	wantErrno(b.t, "Crash", b.d.Crash(keepOf(r, b.d)), api.OK)
	b.wantDead(turn("app", true, b.b.now)) // in doubt until it is opened anew
	b.x = opened(b.t, b.d)
	if there = b.x.Pager().Generation() > before; !there {
		b.b = was
	}
	b.b.now = b.b.noted
	b.look(c.what + ", behind a death")
	return true, there
}

// C5, P2: rows of calls at random, with deaths in any act, and crashes that keep any sectors.
func TestLawDeaths(t *testing.T) {
	for seed := range 8 {
		t.Run(fmt.Sprint(seed), func(t *testing.T) {
			t.Parallel()
			r := rand.New(rand.NewSource(int64(200 + seed)))
			b := newBoth(t, 64)
			deaths, turned := 0, 0
			for range 250 {
				c := lawCall(r, b.b)
				if r.Intn(2) == 0 {
					c = lawChange(r, b.b)
				}
				died, there := b.dies(r, c, 1+r.Intn(9))
				if died {
					deaths++
				}
				if there {
					turned++
				}
				if r.Intn(20) == 0 {
					b.askAll()
				}
			}
			if deaths < 40 || turned < 3 || turned == deaths {
				t.Errorf("the test is wrong: %d deaths, behind %d of them the change is there", deaths, turned)
			}
		})
	}
}

// C5, P2: a death in each act of each of the calls that change something, with each set of sectors of the last block that was written: as it was, or as it would be, as a whole.
func TestLawEachActEachSector(t *testing.T) {
	for n, c := range []call{register(publicClient("new"), "", 300), register(greatest("new"), q, 300), renew("app", q, 50, 300), turn("app", true, 300)} {
		t.Run(fmt.Sprint(n), func(t *testing.T) {
			t.Parallel()
			image := lived(t)
			turned := 0
			for act := 1; ; act++ {
				b := image()
				wantErrno(t, "Arm", b.d.Arm(act), api.OK)
				if _, errno := c.do(b.x); errno == api.OK {
					break
				}
				pending := b.d.Pending()
				for sectors := range 256 {
					if len(pending) != 1 && sectors%51 != 0 { // a head is pending alone
						continue
					}
					other := loaded(t, b.d.Blocks())
					var keep []api.Keep
					for n, w := range pending {
						wantErrno(t, "Write", other.Write(w.Block, w.Data), api.OK)
						keep = append(keep, api.Keep{N: n, Sectors: 255})
					}
					if len(keep) > 0 {
						keep[len(keep)-1].Sectors = sectors
					}
					wantErrno(t, "Crash", other.Crash(keep), api.OK)
					if would := b.either(c, other); would {
						turned++
						if sectors&1 == 0 || len(pending) != 1 {
							t.Fatalf("death in the act %d, %d sectors: it is there", act, sectors)
						}
					}
				}
			}
			if turned == 0 {
				t.Fatal("the test is wrong")
			}
		})
	}
}

// lived makes copies of a table with some clients and a full trail.
func lived(t *testing.T) func() *both {
	t.Helper()
	b := withApp(t)
	b.want(register(publicClient("web"), "", 100), api.OK)
	b.want(register(greatest("c1"), q, 100), api.OK)
	for n := range 33 {
		b.want(turn("web", n%2 == 0, 100+n), api.OK)
	}
	return func() *both {
		d := loaded(t, b.d.Blocks())
		return &both{t, d, opened(t, d), b.b.copied()}
	}
}

// either is that on a disk stands what a book has, or what a call would make of it; it says whether it is that.
func (b *both) either(c call, d *disk.Disk) bool {
	b.t.Helper()
	would := b.b.copied()
	_, errno := c.book(would)
	wantErrno(b.t, c.what, errno, api.OK)
	if opened(b.t, d).Pager().Generation() > b.x.Pager().Generation() {
		wantStands(b.t, c.what+": as it would be", d, would)
		return true
	}
	wantStands(b.t, c.what+": as it was", d, b.b)
	return false
}

// C5, R4: rows of calls on small disks: what has no room changes nothing, and no death at that.
func TestLawSmallDisks(t *testing.T) {
	for seed := range 8 {
		t.Run(fmt.Sprint(seed), func(t *testing.T) {
			t.Parallel()
			r := rand.New(rand.NewSource(int64(300 + seed)))
			b := newBoth(t, 8+seed)
			full := 0
			for range 200 {
				c := lawCall(r, b.b)
				was, before := b.b.copied(), b.state()
				want, errno := c.book(b.b)
				got, e := c.do(b.x)
				if e == api.ErrPagerFull && errno == api.OK && len(b.b.events) > len(was.events) {
					now := b.b.now
					b.b = was
					b.b.now = now
					if after := b.state(); !after.same(before) {
						t.Fatalf("%s: %d acts", c.what, after.acts-before.acts)
					}
					full++
				} else if e != errno || !sameClient(got, want) {
					t.Fatalf("%s: %#v, %d; want %#v, %d", c.what, got, e, want, errno)
				}
				b.look(c.what)
				if r.Intn(20) == 0 {
					b.reopen()
				}
			}
			if full == 0 && seed < 3 {
				t.Errorf("the test is wrong: there is always room on %d blocks", 8+seed)
			}
		})
	}
}
