package code_test

import (
	"fmt"
	"slices"
	"testing"

	"latchkey/api"
	"latchkey/disk"
	"latchkey/pager"
	"latchkey/tree"
)

// tight is a disk on which the same pairs stand, and no page is free.
func tight(t *testing.T, d *disk.Disk) *disk.Disk {
	t.Helper()
	from, errno := pager.Mount(d)
	wantErrno(t, "Mount", errno, api.OK)
	pairs, errno := tree.Open(from).Scan("", "", 4096)
	wantErrno(t, "Scan", errno, api.OK)
	lay := func(blocks int) *disk.Disk {
		d, errno := disk.New(blocks)
		wantErrno(t, "New", errno, api.OK)
		wantErrno(t, "Format", pager.Format(d, from.Note()), api.OK)
		to, errno := pager.Mount(d)
		wantErrno(t, "Mount", errno, api.OK)
		x := tree.Open(to)
		for _, p := range pairs {
			wantErrno(t, "Put", x.Put(p.Key, p.Value), api.OK)
		}
		wantErrno(t, "Commit", x.Commit(from.Note()), api.OK)
		return d
	}
	wide, errno := pager.Mount(lay(512))
	wantErrno(t, "Mount", errno, api.OK)
	d = lay(2 + len(wide.Reached()))
	if free := opened(t, d).Pager().Free(); free != 0 {
		t.Fatalf("the test is wrong: %d are free", free)
	}
	return d
}

// widened is a disk with the same on it, and so many free pages.
func widened(t *testing.T, d *disk.Disk, spare int) *disk.Disk {
	t.Helper()
	blocks := d.Blocks()
	for range spare {
		blocks = append(blocks, many(512, "\x00"))
	}
	g, errno := pager.Mount(d)
	wantErrno(t, "Mount", errno, api.OK)
	head, errno := pager.PrintHead(g.Generation(), g.Root(), len(blocks), g.Note())
	wantErrno(t, "PrintHead", errno, api.OK)
	blocks[g.Generation()%2] = head
	blocks[1-g.Generation()%2] = many(512, "\x00")
	return loaded(t, blocks)
}

// fault is what a table can not do.
type fault struct {
	dead    bool
	many    bool // eight codes are Fresh and not over, and four families of ann are alive; else seven, and three
	ids     int  // how many IDs are left; 9: enough
	noEvent bool // no number is left for an event
	full    bool // no page is free
	aged    bool // no generation is left
}

// faults are all of them, alone and together.
func faults() []fault {
	var l []fault
	for n := range 32 {
		for _, ids := range []int{0, 1, 2, 9} {
			l = append(l, fault{n&1 > 0, n&2 > 0, ids, n&4 > 0, n&8 > 0, n&16 > 0})
		}
	}
	return l
}

// shelf has a code's text of each kind, at 120.
type shelf map[string]string

// faulty is a table at 120 on which codes of app's stand in all states, with that fault. The verifier of all is v.
func faulty(t *testing.T, f fault) (*both, shelf) {
	t.Helper()
	const events = 19
	base := 0
	if f.noEvent {
		base = lastID - events
		if f.many {
			base -= 2
		}
	}
	b := founded(t, 128, 1, base, append(three(), someClient("once"))...)
	gives := func(c call) string {
		a := b.quick(c)
		wantErrno(t, c.what, a.errno, api.OK)
		return a.text + a.issued.Token
	}
	texts := shelf{"none": "x", "strange": textOf("lkc_", 1, secret(99))}
	give := func(kind, client, subject string, scope []string, life, now, n int) {
		texts[kind] = gives(approve(client, subject, scope, ofV, life, now, secret(n)))
	}
	give("expired", "app", "bob", nil, 30, 60, 1) // Spent, its family Active and not alive
	gives(redeem("app", texts["expired"], v, 60, secret(2)))
	give("ended", "app", "bob", nil, 30, 100, 3) // Spent, its family revoked
	revoked := gives(redeem("app", texts["ended"], v, 100, secret(4)))
	gives(revoke("app", revoked, 105))
	give("spent", "app", "bob", nil, 30, 110, 5) // Spent, its family alive
	gives(redeem("app", texts["spent"], v, 110, secret(6)))
	give("over", "app", "eve", nil, 5, 115, 7)
	give("good", "app", "eve", nil, 30, 119, 8)
	give("crowded", "app", "ann", nil, 30, 119, 9) // whose subject may have as many as may be
	give("beyond", "web", "eve", names("admin"), 30, 119, 10)
	give("other", "web", "eve", names("read"), 30, 119, 11)
	give("switched", "once", "eve", nil, 30, 119, 12)
	gives(turn("once", true, 119))
	for n := range 2 {
		give(fmt.Sprint("good", n), "app", "eve", nil, 30, 119, 13+n)
	}
	for n := range 3 {
		gives(issue("app", "ann", nil, 119, secret(20+n)))
	}
	if f.many {
		gives(issue("app", "ann", nil, 119, secret(24)))
		give("eighth", "app", "eve", nil, 30, 120, 15) // takes the one that is over away
	}
	b.faulted(f)
	return b, texts
}

// faulted lets a table have a fault.
func (b *both) faulted(f fault) {
	b.t.Helper()
	b.x.See(120)
	b.b.see(120) // which is noted with the change of a client that may not do all any more that it has codes for
	b.change("web", func(c *api.Client) { c.Scope = names("read", "write") })
	if f.ids < 9 {
		b.b.next = lastID + 1 - f.ids
		b.d = noted(b.t, b.d, b.b.next)
	}
	if f.full {
		b.d = tight(b.t, b.d)
	}
	if f.aged {
		b.d = aged(b.t, b.d, worn)
	}
	b.x = opened(b.t, b.d)
	b.look("the table")
	if left := b.b.left(); f.noEvent != (left == 0) {
		b.t.Fatalf("the test is wrong: %d numbers are left for events", left)
	}
	if f.dead {
		kill(b.t, b.d)
	}
}

// behind is the error of a commit, with so many IDs, at such a table.
func (f fault) behind(ids int) api.Errno {
	switch {
	case f.ids < ids || f.noEvent:
		return api.ErrTableWorn
	case f.full:
		return api.ErrPagerFull
	case f.aged:
		return api.ErrPagerWorn
	}
	return api.OK
}

// trying is a call that must be refused: it leaves the table as it was, all of it.
func (b *both) trying(f fault, c call, want api.Errno) {
	b.t.Helper()
	before := b.state()
	got := c.do(b.x)
	if !got.same(answer{errno: want}) {
		b.t.Fatalf("%+v: %s: %#v, want %d", f, c.what, got, want)
	}
	if after := b.state(); after != before || len(b.d.Pending()) > 0 {
		b.t.Fatalf("%+v: %s: %d acts", f, c.what, after.acts-before.acts)
	}
	if !f.dead {
		b.glance(c.what)
	}
}

// glance looks at the ends of the trail, the codes, the families and the next ID: nothing can be begun and leave these as they were.
func (b *both) glance(what string) {
	b.t.Helper()
	want := b.b.everything()
	chain, errno := b.x.Chain()
	ids, e := b.x.Ending(most, most)
	if errno != api.OK || e != api.OK || chain != want.chain || len(ids) != len(want.families) {
		b.t.Fatalf("%s: the chain is %x, %d; the families are %v, %d", what, chain, errno, ids, e)
	}
	for _, f := range want.families {
		if is, errno := b.x.Family(f.ID); errno != api.OK || !same(is, f) {
			b.t.Fatalf("%s: %#v, %d; want %#v", what, is, errno, f)
		}
	}
	b.codes(want.codes...)
	if next := nextOf(b.x); next != b.b.next {
		b.t.Fatalf("%s: the next ID is %d, want %d", what, next, b.b.next)
	}
}

// tryEach makes a call on the table itself, if it must be refused without a change, else on a copy, by the book.
func (b *both) tryEach(f fault, c call, want api.Errno, changes bool) {
	b.t.Helper()
	if changes {
		b.twin(b.t).want(c, want)
		return
	}
	b.trying(f, c, want)
}

// approveErrno is what C2 answers of app's, gone's and off's wishes.
func approveErrno(f fault, client string, scope []string, wrong bool) api.Errno {
	switch {
	case wrong:
		return api.ErrArg
	case f.dead:
		return api.ErrDead
	case client == "gone":
		return api.ErrClientNone
	case client == "off":
		return api.ErrClientOff
	case slices.Contains(scope, "admin"):
		return api.ErrGrantScope
	case f.many:
		return api.ErrCodeMany
	}
	return f.behind(1)
}

// C2: several things wrong at once, in the order in which the promise names them; all combinations. What is refused changes nothing.
func TestApproveInOrder(t *testing.T) {
	t.Parallel()
	for _, f := range faults() {
		t.Run(fmt.Sprint(f), func(t *testing.T) {
			t.Parallel()
			b, _ := faulty(t, f)
			for _, client := range []string{"gone", "off", "app"} {
				for _, scope := range [][]string{names("admin"), nil, names("read")} {
					for wrong := range 6 {
						a := wish{client, "ann", scope, ofV, 30, 120, secret(30)}
						switch wrong {
						case 1:
							a.subject = "Ann"
						case 2:
							a.secret = a.secret[1:]
						case 3:
							a.scope = append(slices.Clone(a.scope), "")
						case 4:
							a.challenge += "="
						case 5:
							a.client = "App"
						}
						want := approveErrno(f, client, scope, wrong > 0)
						b.tryEach(f, a.call(), want, want == api.OK)
					}
				}
			}
		})
	}
}

// redeemErrno is what C3 answers of a text of that kind, and whether something is changed.
func redeemErrno(f fault, client, kind string, shown string, wrong bool) (api.Errno, bool) {
	owner := map[string]string{"beyond": "web", "other": "web", "switched": "once", "none": "", "strange": ""}
	own, special := owner[kind]
	if !special {
		own = "app"
	}
	switch {
	case wrong:
		return api.ErrArg, false
	case f.dead:
		return api.ErrDead, false
	case client == "gone":
		return api.ErrClientNone, false
	case client != own || kind == "over" || kind == "ended":
		return api.ErrCodeToken, false
	case kind == "spent" || kind == "expired":
		if errno := f.behind(0); errno != api.OK {
			return errno, false
		}
		return api.ErrCodeToken, true
	case shown != v:
		return api.ErrCodeVerify, false
	case kind == "switched":
		return api.ErrClientOff, false
	case kind == "beyond":
		return api.ErrGrantScope, false
	case kind == "crowded" && f.many:
		return api.ErrGrantMany, false
	}
	errno := f.behind(2)
	return errno, errno == api.OK
}

// C3: a code of each kind, with each fault of the table, each verifier and each wrong argument; all combinations.
func TestRedeemInOrder(t *testing.T) {
	t.Parallel()
	for _, f := range faults() {
		t.Run(fmt.Sprint(f), func(t *testing.T) {
			t.Parallel()
			b, texts := faulty(t, f)
			for kind, text := range texts {
				for _, client := range []string{"gone", "once", "web", "app"} {
					for _, shown := range []string{v, w, "x"} {
						for _, s := range []string{secret(30), secret(30)[1:]} {
							want, changes := redeemErrno(f, client, kind, shown, len(s) != 24)
							b.tryEach(f, redeem(client, text, shown, 120, s), want, changes)
						}
					}
				}
				b.trying(f, redeem("App", text, v, 120, secret(30)), api.ErrArg)
			}
		})
	}
}

// C2, C3: with no number left, with no room, with no generation left the table is as it was, and the same is done when there is.
func TestAsItWas(t *testing.T) {
	t.Parallel()
	for _, f := range []fault{{ids: 9, full: true}, {ids: 9, aged: true}, {ids: 9, noEvent: true}, {ids: 0}} {
		b, texts := faulty(t, f)
		blocks := b.d.Blocks()
		for range 2 {
			b.wantRefused(approve("app", "ann", nil, ofV, 30, 120, secret(30)), f.behind(1))
			b.wantRefused(redeem("app", texts["good"], v, 120, secret(30)), f.behind(2))
			if f.ids > 0 {
				b.wantRefused(redeem("app", texts["spent"], v, 120, secret(30)), f.behind(0))
			}
			b.look("refused")
		}
		if !slices.Equal(b.d.Blocks(), blocks) {
			t.Fatalf("%+v: another disk", f)
		}
		if f.full {
			d := widened(t, b.d, 30)
			b = &both{t, d, opened(t, d), b.b}
			b.want(approve("app", "ann", nil, ofV, 30, 120, secret(30)), api.OK)
			b.want(redeem("app", texts["good"], v, 120, secret(30)), api.OK)
			b.want(redeem("app", texts["spent"], v, 120, secret(30)), api.ErrCodeToken)
		}
	}
}

// R4: as much room as a change needs, and a page less: it is refused, or done as a whole.
func TestAlmostFull(t *testing.T) {
	t.Parallel()
	full, texts := faulty(t, fault{ids: 9, full: true})
	for _, c := range []call{
		approve("app", "ann", nil, ofV, 30, 120, secret(30)), approve("app", "ann", nil, ofV, 30, 1000, secret(30)), redeem("app", texts["good"], v, 120, secret(30)),
		redeem("app", texts["spent"], v, 120, secret(30)), redeem("app", texts["expired"], "", 120, secret(30)),
	} {
		t.Run(c.what, func(t *testing.T) {
			t.Parallel()
			refused, done := 0, 0
			for spare := range 30 {
				d := widened(t, full.d, spare)
				b := &both{t, d, opened(t, d), full.b.copied()}
				before := b.state()
				got := c.do(b.x)
				if got.errno == api.ErrPagerFull && done == 0 && got.same(answer{errno: api.ErrPagerFull}) && b.state() == before {
					refused++
					b.b.now = b.x.Now()
					b.look(c.what)
					continue
				}
				done++
				if want := c.book(b.b); !got.same(want) {
					t.Fatalf("%s: %#v, want %#v", c.what, got, want)
				}
				b.look(c.what)
			}
			if refused == 0 || done == 0 {
				t.Fatalf("the test is wrong: %d refused, %d done", refused, done)
			}
		})
	}
}

// R4: a pin takes the room; behind it the same call is done.
func TestFullByPins(t *testing.T) {
	b := founded(t, 14, 1, 0, three()...)
	first := b.code(1000, 100, 1)
	refused := false
	for n := 0; n < 40 && !refused; n++ {
		if n < 4 {
			_, errno := b.x.Pager().Pin()
			wantErrno(t, "Pin", errno, api.OK)
		}
		c := approve("app", "ann", nil, ofV, 0, 101+n, secret(n))
		before, twin := b.state(), b.b.copied()
		got := c.do(b.x)
		if refused = got.errno == api.ErrPagerFull; refused {
			if !got.same(answer{errno: api.ErrPagerFull}) || b.state() != before {
				t.Fatalf("%s: %#v", c.what, got)
			}
			b.b.see(101 + n)
			b.look("no room")
			continue
		}
		if want := c.book(twin); !got.same(want) {
			t.Fatalf("%s: %#v, want %#v", c.what, got, want)
		}
		b.b = twin
	}
	if !refused {
		t.Fatal("the test is wrong")
	}
	b.wantRefused(redeem("app", first, v, 0, secret(9)), api.ErrPagerFull)
	for pin := range 4 {
		b.x.Pager().Unpin(pin + 1)
	}
	b.want(redeem("app", first, v, 0, secret(50)), api.OK)
	b.reopen()
}
