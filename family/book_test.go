package family_test

import (
	"slices"
	"testing"

	"latchkey/api"
	"latchkey/family"
	"latchkey/token"
)

// page is what a book has of one token.
type page struct {
	spent bool
	at    int    // when
	next  string // the text that was given for it
}

// book is what becomes of a family by F8's words: in plain numbers, of which no record knows. Beside it stand the records that the program made.
type book struct {
	idle, absolute, grace int
	created, used         int
	state                 int // 1, or how it ended
	pages                 []page

	f      api.Family
	tokens []api.Token // by their generations
	counts *[6]int     // how often each verdict came
}

// opened is a book of a family that Begin made, of times that never come to the last one of all.
func opened(t *testing.T, b birth, counts *[6]int) book {
	t.Helper()
	f, k, errno := b.begin()
	if errno != api.OK {
		t.Fatalf("Begin of %#v: %d", b, errno)
	}
	c := b.client
	return book{idle: c.Idle, absolute: c.Absolute, grace: c.Grace, created: b.now, used: b.now, state: 1, pages: []page{{}}, f: f, tokens: []api.Token{k}, counts: counts}
}

// copied is a book that goes its own way.
func (b book) copied() book {
	b.pages, b.tokens = slices.Clone(b.pages), slices.Clone(b.tokens)
	return b
}

// end is when it is over, if nobody comes any more.
func (b book) end() int { return min(b.created+b.absolute, b.used+b.idle) }

// worth is the verdict by the book.
func (b book) worth(gen, now int) int {
	p := b.pages[gen]
	switch {
	case b.state != 1:
		return api.VerdictEnded
	case now >= b.created+b.absolute || now >= b.used+b.idle:
		return api.VerdictExpired
	case !p.spent:
		return api.VerdictFresh
	case now < p.at+b.grace:
		return api.VerdictReplay
	}
	return api.VerdictReuse
}

// show is that a token is shown at a time that is not ahead of the last one, with what it must be worth, and with what becomes of it.
func (b *book) show(t *testing.T, gen, now, next int, secret string) {
	t.Helper()
	want := b.worth(gen, now)
	if got := family.Judge(b.f, b.tokens[gen], now); got != want {
		t.Fatalf("of the generation %d at %d: %d, want %d: %#v, %#v", gen+1, now, got, want, b.f, b.tokens[gen])
	}
	b.wantTold(t, now)
	b.counts[want]++
	switch want {
	case api.VerdictFresh:
		b.rotate(t, gen, now, next, secret)
	case api.VerdictReplay:
		b.replay(t, gen)
	case api.VerdictReuse:
		b.finish(t, api.Reused, now)
	case api.VerdictExpired:
		b.finish(t, api.Expired, now)
	case api.VerdictEnded:
		if _, _, _, errno := family.Rotate(b.f, b.tokens[gen], next, secret, now); errno != api.ErrArg {
			t.Fatalf("Rotate of what has ended: %d", errno)
		}
	}
	b.wantWhole(t, now)
}

// rotate is that the current token gives its successor: the first one that it ever gives.
func (b *book) rotate(t *testing.T, gen, now, next int, secret string) {
	t.Helper()
	if b.pages[gen].next != "" || gen != len(b.pages)-1 {
		t.Fatalf("the generation %d has a successor", gen+1)
	}
	stale := b.tokens[gen]
	f, spent, fresh, errno := family.Rotate(b.f, stale, next, secret, now)
	if errno != api.OK {
		t.Fatalf("Rotate at %d: %d", now, errno)
	}
	b.f, b.tokens[gen], b.used = f, spent, now
	b.tokens = append(b.tokens, fresh)
	b.pages[gen] = page{spent: true, at: now, next: textOf(next, secret)}
	b.pages = append(b.pages, page{})
	if v := family.Judge(f, stale, now); v == api.VerdictFresh || v == api.VerdictReplay {
		t.Fatalf("as it was ahead of the rotation it is worth %d", v)
	}
}

// replay is that a spent token gives the very same successor again.
func (b *book) replay(t *testing.T, gen int) {
	t.Helper()
	k := b.tokens[gen]
	text, errno := token.Mint(api.Refresh, k.Next, k.Secret)
	next := b.tokens[gen+1]
	if text != b.pages[gen].next || errno != api.OK || next.ID != k.Next || next.Hash != token.Hash(text) {
		t.Fatalf("the generation %d gives %q, %d, and gave %q", gen+1, text, errno, b.pages[gen].next)
	}
}

// finish is that the family ends, and ends once.
func (b *book) finish(t *testing.T, state, now int) {
	t.Helper()
	f, errno := family.Finish(b.f, state, now)
	if errno != api.OK {
		t.Fatalf("Finish at %d: %d", now, errno)
	}
	b.f, b.state = f, state
	if _, errno := family.Finish(f, state, now); errno != api.ErrArg {
		t.Fatalf("Finish of what has ended: %d", errno)
	}
}

// wantTold is that the current token alone is told active, as long as the family is alive.
func (b *book) wantTold(t *testing.T, now int) {
	t.Helper()
	alive := b.state == 1 && now < b.end()
	if family.Alive(b.f, now) != alive {
		t.Fatalf("alive at %d: %v", now, !alive)
	}
	for gen, k := range b.tokens {
		info := family.Tell(b.f, k, now)
		if want := alive && gen == len(b.tokens)-1; info.Active != want {
			t.Fatalf("the generation %d of %d at %d: %#v", gen+1, len(b.tokens), now, info)
		}
		if info.Active && (info.End != b.end() || info.Gen != gen+1 || info.Family != b.f.ID || info.Issued != b.used) {
			t.Fatalf("the generation %d at %d: %#v", gen+1, now, info)
		}
	}
}

// wantWhole is what holds all the time.
func (b *book) wantWhole(t *testing.T, now int) {
	t.Helper()
	if b.f.Created != b.created || b.f.Used != b.used || b.f.State != b.state || b.f.Gen != len(b.tokens) || !familyOK(b.f) {
		t.Fatalf("the family: %#v", b.f)
	}
	left := 0
	for gen, k := range b.tokens {
		if !tokenOK(k) || k.Spent != b.pages[gen].spent || k.Gen != gen+1 || k.Family != b.f.ID {
			t.Fatalf("the generation %d: %#v", gen+1, k)
		}
		if !k.Spent {
			left++
		}
	}
	if left > 1 {
		t.Fatalf("%d tokens are not spent", left)
	}
	if b.state != 1 && (b.f.Ended > now || family.Alive(b.f, now)) {
		t.Fatalf("at %d: %#v", now, b.f)
	}
}
