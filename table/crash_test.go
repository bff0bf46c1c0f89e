package table_test

import (
	"fmt"
	"maps"
	"math/rand"
	"slices"
	"testing"

	"latchkey/api"
	"latchkey/disk"
	"latchkey/table"
)

// The calls that keep records together that belong together, as those who stand on a table do it: drawn for the records that there are.

// drawStep are the calls of one thing that is done: a family begun, rotated, ended or taken away, a code given, spent or taken away, a client, a key, and what is noted of it.
func drawStep(r *rand.Rand, p *plain) []call {
	now := p.now // what is put is not ahead of the time that is seen here
	l := []call{see(now + r.Intn(20))}
	switch r.Intn(10) {
	case 0, 1:
		return append(l, slices.Concat(begun(r, p, now, 0), event(p, now))...)
	case 2, 3, 4:
		return append(l, slices.Concat(rotated(r, p, now), event(p, now))...)
	case 5:
		return append(l, ended(r, p, now)...)
	case 6:
		return append(l, swept(r, p)...)
	case 7:
		return append(l, given(p)...)
	case 8:
		return append(l, redeemed(r, p, now)...)
	}
	return append(l, slices.Concat(kept(r, p, now), event(p, now))...)
}

// begun is a family with its first token, of the next two IDs.
func begun(r *rand.Rand, p *plain, now, code int) []call {
	f := someFamily(p.next, p.next+1, now, drawName(r))
	f.Code = code
	k := current(p.next+1, p.next, 1)
	k.Minted = now
	return []call{nextID(), nextID(), putFamily(f), putToken(k)}
}

func rotated(r *rand.Rand, p *plain, now int) []call {
	if len(p.families) == 0 {
		return nil
	}
	f := p.families[r.Intn(len(p.families))]
	if f.State != api.Active {
		return nil
	}
	old, _ := p.Token(f.Token)
	old.Spent, old.At, old.Next, old.Secret = true, now, p.next, digest(p.next)[:24]
	k := current(p.next, f.ID, f.Gen+1)
	k.Minted = now
	f.Gen, f.Token, f.Used = f.Gen+1, k.ID, now
	return []call{nextID(), putToken(old), putToken(k), putFamily(f)}
}

func ended(r *rand.Rand, p *plain, now int) []call {
	if len(p.families) == 0 {
		return nil
	}
	f := p.families[r.Intn(len(p.families))]
	if f.State == api.Active {
		f.State, f.Ended = 2+r.Intn(3), now
	}
	return []call{putFamily(f)}
}

func swept(r *rand.Rand, p *plain) []call {
	var l []call
	for _, f := range p.families {
		if r.Intn(3) > 0 {
			continue
		}
		if l = append(l, removeFamily(f.ID)); f.Code != 0 {
			l = append(l, removeCode(f.Code))
		}
	}
	return l
}

func fresh(p *plain) []api.Code {
	return slices.DeleteFunc(slices.Clone(p.codes), func(c api.Code) bool { return c.State != api.CodeFresh })
}

func given(p *plain) []call {
	if l := fresh(p); len(l) == 8 {
		return []call{removeCode(l[0].ID)}
	}
	return []call{nextID(), putCode(freshCode(p.next))}
}

func redeemed(r *rand.Rand, p *plain, now int) []call {
	l := fresh(p)
	if len(l) == 0 {
		return nil
	}
	c := l[r.Intn(len(l))]
	calls := begun(r, p, now, c.ID)
	return append(calls, putCode(spentCode(c.ID, p.next)))
}

// kept is a client, or a key: as many as there may be.
func kept(r *rand.Rand, p *plain, now int) []call {
	if r.Intn(2) == 0 {
		return []call{putClient(someClient(fmt.Sprint("c", r.Intn(8))))}
	}
	number := 1 + r.Intn(4)
	if slices.ContainsFunc(p.keys, func(k api.Key) bool { return k.Number == number }) {
		return []call{removeKey(number)}
	}
	return []call{putKey(api.Key{Number: number, Secret: digest(now)[:24], From: now, Until: lastTime})}
}

// event is the next one; the oldest goes, if there are 32.
func event(p *plain, now int) []call {
	c, _ := p.Chain()
	l := []call{putEvent(api.Event{Number: c.Next, Time: now, Kind: api.EventIssue, Who: "app"})}
	c.Next++
	c.NextHash = digest(c.Next)
	if c.Next-c.Base > 33 {
		c.Base++
		c.BaseHash = digest(c.Base)
		l = append(l, removeEvent(c.Base))
	}
	return append(l, putChain(c))
}

// step does one thing that keeps records together, without a commit.
func (b *both) step(r *rand.Rand) {
	b.t.Helper()
	for _, c := range drawStep(r, b.p) {
		b.call(c)
	}
	if !b.p.belong(b.p.now) {
		b.t.Fatal("the test is wrong: the records do not belong together")
	}
}

// lived is a table over which so many things were done, each committed.
func lived(t *testing.T, r *rand.Rand, blocks, steps int) *both {
	t.Helper()
	b := bothOf(t, blocks, lists{next: 1}, 0)
	for range steps {
		b.step(r)
		b.call(commit())
	}
	return b
}

// standsEither is that on a disk stands what was, or what would be, as a whole; it says whether it is what would be.
func standsEither(t *testing.T, what string, d *disk.Disk, was, would lists, wasTime, wouldTime, wouldGeneration int) bool {
	t.Helper()
	if generation(t, d) == wouldGeneration {
		wantStands(t, what, d, would, wouldTime)
		return true
	}
	wantStands(t, what, d, was, wasTime)
	return false
}

// B11, P2: scripts whose records belong together, with a death at every act of every commit, and crashes of whatever sectors.
func TestDeathAtEveryAct(t *testing.T) {
	for seed := range 5 {
		t.Run(fmt.Sprint(seed), func(t *testing.T) {
			t.Parallel()
			r := rand.New(rand.NewSource(int64(190 + seed)))
			b := lived(t, r, 160, 20*seed)
			for range 7 {
				dieEverywhere(b, r)
			}
		})
	}
}

// dieEverywhere does one thing again and again on copies of a disk, dying at one act more each time; then it is done.
func dieEverywhere(b *both, r *rand.Rand) {
	b.t.Helper()
	image, was, wasTime, before := b.d.Blocks(), b.p.stands, b.noted(), b.x.Pager().Generation()
	seed := r.Int63()
	for act := 1; ; act++ {
		d := loaded(b.t, image)
		other := &both{b.t, d, opened(b.t, d), newPlain(was, wasTime)}
		other.step(rand.New(rand.NewSource(seed)))
		wantErrno(b.t, "Arm", d.Arm(act), api.OK)
		errno := other.x.Commit()
		if errno == api.OK {
			other.p.Commit()
			wantErrno(b.t, "Arm", d.Arm(0), api.OK)
			*b = *other
			b.reopen()
			return
		}
		wantErrno(b.t, "Commit", errno, api.ErrDead)
		turned := 0
		crashes(b.t, d, 2, seed, func(what string, d *disk.Disk) {
			if standsEither(b.t, what, d, was, other.p.lists, wasTime, other.p.now, before+1) {
				turned++
			}
		})
		if acts := d.Acts(); turned > 0 && len(d.Pending()) != 1 {
			b.t.Fatalf("a death behind %d acts, ahead of the last one, and it stands as it would be", acts)
		}
	}
}

// B11, P2: a long life, with deaths at acts drawn at random, also while the table is opened; with indexes that somebody spoilt.
func TestLongLife(t *testing.T) {
	for seed := range 4 {
		t.Run(fmt.Sprint(seed), func(t *testing.T) {
			t.Parallel()
			r := rand.New(rand.NewSource(int64(210 + seed)))
			b := lived(t, r, 200, 10)
			deaths, turned := 0, 0
			for range 150 {
				b.step(r)
				if r.Intn(3) == 0 {
					b.call(abort())
					b.step(r)
				}
				was, wasTime, before := b.p.stands, b.noted(), b.x.Pager().Generation()
				if r.Intn(2) == 0 {
					wantErrno(t, "Arm", b.d.Arm(4+r.Intn(9)), api.OK)
				}
				if errno := b.x.Commit(); errno == api.OK {
					b.p.Commit()
					wantErrno(t, "Arm", b.d.Arm(0), api.OK)
					continue
				}
				deaths++
				would, wouldTime := b.p.lists, b.p.now
				wantErrno(t, "Crash", b.d.Crash(drawnKeep(r, b.d)), api.OK)
				if standsEither(t, "behind a crash", b.d, was, would, wasTime, wouldTime, before+1) {
					turned++
					was, wasTime = would, wouldTime
				}
				b.d = loaded(t, b.d.Blocks())
				spoilAndDie(t, r, b.d, was)
				b.x = wantStands(t, "mended", b.d, was, wasTime)
				b.p = newPlain(was, wasTime)
			}
			if deaths < 20 || turned == 0 || turned == deaths {
				t.Errorf("%d deaths, of which %d came behind the commit", deaths, turned)
			}
		})
	}
}

// spoilAndDie spoils the indexes, and opens the table, dying in that now and then, until it is opened.
func spoilAndDie(t *testing.T, r *rand.Rand, d *disk.Disk, l lists) {
	t.Helper()
	pairs := l.pairs(t)
	for _, key := range slices.Sorted(maps.Keys(l.entries())) {
		if r.Intn(5) == 0 {
			delete(pairs, key)
		}
	}
	change(t, d, pairs)
	for range 5 {
		wantErrno(t, "Arm", d.Arm(1+r.Intn(12)), api.OK)
		if x, errno := table.Open(d); errno == api.OK && x != nil {
			break
		}
		wantErrno(t, "Crash", d.Crash(drawnKeep(r, d)), api.OK)
	}
	wantErrno(t, "Arm", d.Arm(0), api.OK)
	opened(t, d)
}

// drawnKeep is what stays behind a crash.
func drawnKeep(r *rand.Rand, d *disk.Disk) []api.Keep {
	var l []api.Keep
	for n := range d.Pending() {
		l = append(l, api.Keep{N: n, Sectors: pick(r, 0, 255, r.Intn(256), 1<<r.Intn(8), 255^1<<r.Intn(8))})
	}
	return l
}
