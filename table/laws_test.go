package table_test

import (
	"fmt"
	"math/rand"
	"slices"
	"testing"

	"latchkey/api"
)

func pick[T any](r *rand.Rand, l ...T) T { return l[r.Intn(len(l))] }

func drawName(r *rand.Rand) string {
	return pick(r, "a", "an", "ann", "app", "bob", "web", "zed", "-", many(16, "z"))
}

func drawID(r *rand.Rand) int {
	return pick(r, 1+r.Intn(16), 1+r.Intn(16), 1+r.Intn(16), 255+r.Intn(4), lastID, lastID-1)
}

func drawTime(r *rand.Rand) int { return pick(r, 0, 100, 100, r.Intn(300), r.Intn(300), lastTime) }

func drawClient(r *rand.Rand) api.Client {
	c := pick(r, someClient(drawName(r)), publicClient(drawName(r)))
	c.Grace, c.Life = drawTime(r), 1+r.Intn(5)
	return c
}

func drawFamily(r *rand.Rand) api.Family {
	f := someFamily(drawID(r), drawID(r), drawTime(r), drawName(r))
	f.Gen, f.Idle, f.Code = 1+r.Intn(4), pick(r, 1, 50, lastTime), pick(r, 0, drawID(r))
	if r.Intn(2) == 0 {
		f.State, f.Ended = 2+r.Intn(3), pick(r, f.Used, lastTime)
	}
	return f
}

func drawToken(r *rand.Rand) api.Token {
	k := current(drawID(r), drawID(r), pick(r, 1+r.Intn(4), lastGen))
	if r.Intn(2) == 0 {
		k = spent(k.ID, k.Family, k.Gen, drawID(r))
	}
	return k
}

func drawCode(r *rand.Rand) api.Code {
	c := pick(r, freshCode(drawID(r)), spentCode(drawID(r), drawID(r)))
	c.Until = drawTime(r)
	return c
}

func drawKey(r *rand.Rand) api.Key {
	return api.Key{Number: pick(r, 1+r.Intn(6), 256, lastKey), Secret: digest(r.Intn(3))[:24], From: r.Intn(9), Until: 9 + r.Intn(9)}
}

func drawEvent(r *rand.Rand) api.Event {
	return api.Event{Number: drawID(r), Time: drawTime(r), Kind: 1 + r.Intn(9), Family: pick(r, 0, drawID(r)), Who: pick(r, "", drawName(r))}
}

// drawWrong is a call that is refused for its arguments.
func drawWrong(r *rand.Rand) call {
	n := pick(r, least, -1, 0, lastID+1, most)
	k, f := drawToken(r), drawFamily(r)
	k.Hash, f.Gen = "", 0
	return pick(r, putToken(k), putFamily(f), putClient(api.Client{Name: "a"}), putCode(api.Code{ID: 1}), putKey(api.Key{Number: n}), putEvent(api.Event{Number: n}), putChain(api.Chain{Base: n}),
		removeFamily(n), removeCode(n), removeKey(n), removeEvent(n), getFamily(n), getToken(n), getCode(n), tokensOf(n), getClient(many(17, "a")), ofSubject(""))
}

// drawChange is a call that changes something, of records that need not belong together.
func drawChange(r *rand.Rand) call {
	switch r.Intn(20) {
	case 0:
		return putClient(drawClient(r))
	case 1, 2, 3, 4:
		return putFamily(drawFamily(r))
	case 5, 6, 7, 8, 9:
		return putToken(drawToken(r))
	case 10:
		return putCode(drawCode(r))
	case 11:
		return putKey(drawKey(r))
	case 12:
		return putEvent(drawEvent(r))
	case 13:
		base := r.Intn(5)
		return putChain(someChain(base, base+1+r.Intn(33)))
	case 14:
		return removeFamily(drawID(r))
	case 15:
		return pick(r, removeCode(drawID(r)), removeKey(1+r.Intn(6)), removeEvent(drawID(r)))
	case 16:
		return drawWrong(r)
	case 17:
		return see(pick(r, r.Intn(400), -1, least))
	case 18:
		return nextID()
	}
	return abort()
}

// drawAsk is a call that asks.
func drawAsk(r *rand.Rand) call {
	id := drawID(r)
	return pick(r, getClient(drawName(r)), getFamily(id), getToken(id), getCode(id), tokensOf(id), ofSubject(drawName(r)), ending(r.Intn(400), r.Intn(6)-1),
		allClients(), allCodes(), allKeys(), allEvents(), theChainCall())
}

// commitBoth commits, beside the mirror, which tells whether there is room; and looks at the blocks.
func (b *both) commitBoth(m *mirror) api.Errno {
	b.t.Helper()
	want := m.commit(b.t, b.p.stands.pairs(b.t), b.p.pairs(b.t), noteOf(b.t, b.p.next, b.p.now))
	if errno := b.x.Commit(); errno != want {
		b.t.Fatalf("Commit: %d, want %d", errno, want)
	}
	if want == api.OK {
		b.p.Commit()
	}
	if !slices.Equal(b.d.Blocks(), m.d.Blocks()) || len(b.d.Pending()) > 0 {
		b.t.Fatal("behind Commit stand other blocks")
	}
	return want
}

// B11: rows of calls, drawn at random, against plain lists of records, block by block; on disks with room and without. (Such records hardly ever belong together: then whoever opens the disk is refused.)
func TestRows(t *testing.T) {
	for seed := range 8 {
		t.Run(fmt.Sprint(seed), func(t *testing.T) {
			t.Parallel()
			r := rand.New(rand.NewSource(int64(150 + seed)))
			b := bothOf(t, []int{16, 24, 64, 128}[seed%4], lists{next: 1}, 0)
			m := mirrorOf(t, b.d)
			full := 0
			for step := range 700 {
				b.call(drawChange(r))
				b.call(drawAsk(r))
				if step%25 == 0 {
					wantHas(t, fmt.Sprintf("step %d", step), b.x, b.p)
				}
				if r.Intn(8) > 0 {
					continue
				}
				if b.commitBoth(m) == api.ErrPagerFull {
					full++
					wantHas(t, "full", b.x, b.p)
					b.call(abort())
					continue
				}
				wantOpenAs(t, fmt.Sprintf("step %d", step), b.d)
				if b.x.Pager().Free() < 3 {
					b.empty()
				}
			}
			if seed%4 == 0 && full == 0 {
				t.Error("it was never full")
			}
		})
	}
}

// B11: rows of calls that keep records together: opened anew behind each commit, or not.
func TestRowsThatBelong(t *testing.T) {
	for seed := range 8 {
		t.Run(fmt.Sprint(seed), func(t *testing.T) {
			t.Parallel()
			r := rand.New(rand.NewSource(int64(160 + seed)))
			b := bothOf(t, 200, lists{next: 1}, 0)
			m := mirrorOf(t, b.d)
			for range 120 {
				for range 1 + r.Intn(3) {
					b.step(r)
				}
				switch r.Intn(6) {
				case 0:
					b.call(abort())
				case 1, 2:
					wantErrno(t, "Commit", b.commitBoth(m), api.OK)
					b.reopen()
				default:
					wantErrno(t, "Commit", b.commitBoth(m), api.OK)
				}
			}
			wantHas(t, "in the end", b.x, b.p)
		})
	}
}

// empty takes families away, so that there is room again.
func (b *both) empty() {
	b.t.Helper()
	for _, f := range slices.Clone(b.p.families) {
		b.call(removeFamily(f.ID))
	}
}

// B11: the same calls, with a commit behind each, or behind all: the same records.
func TestHoweverCommitted(t *testing.T) {
	for seed := range 10 {
		one, two := bothOf(t, 256, lists{next: 1}, 0), bothOf(t, 256, lists{next: 1}, 0)
		r := rand.New(rand.NewSource(int64(170 + seed)))
		for range 60 {
			c := drawChange(r)
			if c.what == abort().what {
				continue
			}
			one.call(c)
			one.call(commit())
			two.call(c)
		}
		two.call(commit())
		wantStanding(t, "with a commit behind each", one.d, one.p.pairs(t))
		wantStanding(t, "with one behind all", two.d, one.p.pairs(t))
		wantHas(t, "with one behind all", two.x, one.p)
	}
}

// B2, P13: disks whose pairs are drawn at random: what is opened has its records, and right indexes; all else is refused.
func TestOpenDrawn(t *testing.T) {
	t.Parallel()
	taken := 0
	for seed := range 600 {
		r := rand.New(rand.NewSource(int64(180 + seed)))
		l := home().copied()
		for range r.Intn(3) {
			turnRecords(r, &l)
		}
		pairs := l.pairs(t)
		for range r.Intn(4) {
			key, value := drawnEntry(r)
			pairs[key] = value
		}
		if wantOpenAs(t, fmt.Sprint("seed ", seed), laid(t, 64, pairs, noteOf(t, l.next, homeTime))) {
			taken++
		}
	}
	if taken < 100 || taken > 500 {
		t.Errorf("%d of 600 are taken", taken)
	}
}

// turnRecords turns something of records, so that they may belong together, or not.
func turnRecords(r *rand.Rand, l *lists) {
	switch f, k, c := &l.families[r.Intn(len(l.families))], &l.tokens[r.Intn(len(l.tokens))], &l.codes[r.Intn(len(l.codes))]; r.Intn(14) {
	case 0:
		f.Gen = 1 + r.Intn(4)
	case 1:
		f.Token = 4 + r.Intn(9)
	case 2:
		f.Code = pick(r, 0, 13, 14)
	case 3:
		k.Gen = 1 + r.Intn(3)
	case 4:
		k.Family = pick(r, 3, 5, 10, 257, 258)
	case 5:
		if k.Spent {
			k.Next = 4 + r.Intn(9)
		}
	case 6:
		*k = pick(r, current(k.ID, k.Family, k.Gen), spent(k.ID, k.Family, k.Gen, 4+r.Intn(9)))
	case 7:
		*c = pick(r, freshCode(c.ID), spentCode(c.ID, pick(r, 3, 10, 20)))
	case 8:
		l.next = pick(r, 257, 258, 259, 260, lastID+1)
	case 9:
		put(&l.events, api.OK, someEvent(2+r.Intn(5)), byEvent)
	case 10:
		l.chains = []api.Chain{someChain(1+r.Intn(3), 5+r.Intn(3))}
	case 11:
		put(&l.clients, api.OK, someClient(drawName(r)), byName)
	case 12:
		f.Used = max(f.Created, pick(r, 1000, 1001, 999))
		f.Ended = max(f.Ended, f.Used) * min(f.State-1, 1)
	case 13:
		f.Subject = drawName(r)
	}
}
