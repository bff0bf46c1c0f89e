package grant_test

import (
	"fmt"
	"slices"
	"testing"

	"latchkey/api"
	"latchkey/disk"
	"latchkey/grant"
	"latchkey/pager"
	"latchkey/tree"
)

// tight is a disk on which the same pairs stand, and no page is free.
func tight(t *testing.T, d *disk.Disk) *disk.Disk {
	t.Helper()
	from, errno := pager.Mount(d)
	wantErrno(t, "Mount", errno, api.OK)
	pairs, errno := tree.Open(from).Scan("", "", 4096)
	wantErrno(t, "Scan", errno, api.OK)
	lay := func(blocks int) *disk.Disk {
		d, errno := disk.New(blocks)
		wantErrno(t, "New", errno, api.OK)
		wantErrno(t, "Format", pager.Format(d, from.Note()), api.OK)
		to, errno := pager.Mount(d)
		wantErrno(t, "Mount", errno, api.OK)
		x := tree.Open(to)
		for _, p := range pairs {
			wantErrno(t, "Put", x.Put(p.Key, p.Value), api.OK)
		}
		wantErrno(t, "Commit", x.Commit(from.Note()), api.OK)
		return d
	}
	wide, errno := pager.Mount(lay(512))
	wantErrno(t, "Mount", errno, api.OK)
	d = lay(2 + len(wide.Reached()))
	if free := opened(t, d).Pager().Free(); free != 0 {
		t.Fatalf("the test is wrong: %d are free", free)
	}
	return d
}

// fault is what a table can not do.
type fault struct {
	dead    bool
	many    bool // four families of ann are alive, else three
	ids     int  // how many IDs are left; 9: enough
	noEvent bool // no number is left for an event
	full    bool // no page is free
	aged    bool // no generation is left
}

// faults are all of them, alone and together.
func faults() []fault {
	var l []fault
	for n := range 32 {
		for _, ids := range []int{0, 1, 2, 9} {
			l = append(l, fault{n&1 > 0, n&2 > 0, ids, n&4 > 0, n&8 > 0, n&16 > 0})
		}
	}
	return l
}

// shelf has a text of each kind, at 120.
type shelf map[string]string

// faulty is a table at 120 on which families of app's stand in all states, with that fault.
func faulty(t *testing.T, f fault) (*both, shelf) {
	t.Helper()
	base := 0
	if f.noEvent {
		base = lastID - 12
		if f.many {
			base--
		}
	}
	b := founded(t, 128, 1, base, three()...)
	gives := func(c call) string { return b.quick(c).issued.Token }
	texts := shelf{"none": "x"}
	texts["expired"] = gives(issue("app", "bob", nil, 60, secret(1)))
	texts["replay"] = gives(issue("app", "bob", nil, 100, secret(2)))
	texts["reuse"] = gives(issue("app", "bob", nil, 100, secret(3)))
	texts["ended"] = gives(issue("app", "bob", nil, 100, secret(4)))
	gives(rotate("app", texts["reuse"], nil, 105, secret(5)))
	b.quick(revoke("app", texts["ended"], 105))
	gives(rotate("app", texts["replay"], nil, 115, secret(6)))
	texts["fresh"] = gives(issue("app", "eve", nil, 115, secret(7)))
	texts["other"] = gives(issue("web", "eve", nil, 115, secret(8)))
	for n := range 3 {
		gives(issue("app", "ann", nil, 120, secret(10+n)))
	}
	if f.many {
		gives(issue("app", "ann", nil, 120, secret(14)))
	}
	if f.ids < 9 {
		b.b.next = lastID + 1 - f.ids
		b.d = noted(t, b.d, b.b.next)
	}
	if f.full {
		b.d = tight(t, b.d)
	}
	if f.aged {
		b.d = aged(t, b.d, worn)
	}
	b.x = opened(t, b.d)
	b.look("the table")
	if f.dead {
		kill(t, b.d)
	}
	return b, texts
}

// behind is the error of a commit, with so many IDs, at such a table.
func (f fault) behind(ids int) api.Errno {
	switch {
	case f.ids < ids || f.noEvent:
		return api.ErrTableWorn
	case f.full:
		return api.ErrPagerFull
	case f.aged:
		return api.ErrPagerWorn
	}
	return api.OK
}

// trying makes a call on a copy of a table. What is refused leaves it as it was, all of it.
func (b *both) trying(f fault, c call, want api.Errno) {
	b.t.Helper()
	before := b.state()
	got := c.do(b.x)
	wantErrno(b.t, fmt.Sprintf("%+v: %s", f, c.what), got.errno, want)
	if want != api.OK && !got.same(answer{errno: want}) {
		b.t.Fatalf("%+v: %s: %#v", f, c.what, got)
	}
	if after := b.state(); after != before || len(b.d.Pending()) > 0 {
		b.t.Fatalf("%+v: %s: %d acts", f, c.what, after.acts-before.acts)
	}
	if f.dead {
		return
	}
	b.glance(c.what)
}

// glance looks at the ends of the trail, the families and the next ID: nothing can be begun and leave these as they were.
func (b *both) glance(what string) {
	b.t.Helper()
	want := b.b.everything()
	chain, errno := b.x.Chain()
	ids, e := b.x.Ending(most, most)
	if errno != api.OK || e != api.OK || chain != want.chain || len(ids) != len(want.families) {
		b.t.Fatalf("%s: the chain is %x, %d; the families are %v, %d", what, chain, errno, ids, e)
	}
	for _, f := range want.families {
		if is, errno := b.x.Family(f.ID); errno != api.OK || !same(is, f) {
			b.t.Fatalf("%s: %#v, %d; want %#v", what, is, errno, f)
		}
	}
	if next := nextOf(b.x); next != b.b.next {
		b.t.Fatalf("%s: the next ID is %d, want %d", what, next, b.b.next)
	}
}

// birthErrno is what refuses a birth of app's, as G2 names it; the number of IDs is two.
func birthErrno(f fault, client string, scope []string, wrong bool) api.Errno {
	switch {
	case wrong:
		return api.ErrArg
	case f.dead:
		return api.ErrDead
	case client == "gone":
		return api.ErrClientNone
	case client == "off":
		return api.ErrClientOff
	case slices.Contains(scope, "admin"):
		return api.ErrGrantScope
	case f.many:
		return api.ErrGrantMany
	}
	return api.OK
}

// G2, G3: several things wrong at once, in the order in which the promise names them; all combinations. What is refused changes nothing.
func TestBirthInOrder(t *testing.T) {
	t.Parallel()
	for _, f := range faults() {
		t.Run(fmt.Sprint(f), func(t *testing.T) {
			t.Parallel()
			b, _ := faulty(t, f)
			for _, client := range []string{"gone", "off", "app"} {
				for _, scope := range [][]string{names("admin"), nil, names("read")} {
					for _, wrong := range []int{0, 1, 2, 3} {
						a := birth{client, "ann", scope, 0, secret(30)}
						switch wrong {
						case 1:
							a.subject = "Ann"
						case 2:
							a.secret = a.secret[1:]
						case 3:
							a.scope = append(slices.Clone(a.scope), "")
						}
						own := birthErrno(f, client, scope, wrong > 0)
						b.tryBegin(f, a, own)
						want := own
						if own == api.OK {
							want = f.behind(2)
						}
						c := issue(a.client, a.subject, a.scope, 120, a.secret)
						if want == api.OK {
							b.twin(t).want(c, api.OK)
						} else {
							b.trying(f, c, want)
						}
					}
				}
			}
		})
	}
}

// tryBegin is that Begin is refused so, or, if nothing of its own refuses it, only by a number that is not left; a commit's errors are not its own.
func (b *both) tryBegin(f fault, a birth, own api.Errno) {
	b.t.Helper()
	want := own
	if own == api.OK && (f.ids < 2 || f.noEvent) {
		want = api.ErrTableWorn
	}
	acts := b.d.Acts()
	got, errno := grant.Begin(b.x, a.client, a.subject, a.scope, a.code, a.secret)
	wantErrno(b.t, fmt.Sprintf("%+v: %s", f, a.what()), errno, want)
	if errno != api.OK && !same(got, api.Issued{}) || b.d.Acts() != acts {
		b.t.Fatalf("%+v: %s: %#v, %d acts", f, a.what(), got, b.d.Acts()-acts)
	}
	if errno != api.OK && !f.dead {
		wantHas(b.t, a.what(), b.x, b.b)
	}
	b.x.Abort()
}

// rotateErrno is what G4 answers of a text of that kind.
func rotateErrno(f fault, client, kind string, beyond, wrong bool) api.Errno {
	refused := func(errno, behind api.Errno) api.Errno {
		if behind != api.OK {
			return behind
		}
		return errno
	}
	switch {
	case wrong:
		return api.ErrArg
	case f.dead:
		return api.ErrDead
	case client == "gone":
		return api.ErrClientNone
	case client != "app" || kind == "none" || kind == "other" || kind == "ended":
		return api.ErrGrantToken
	case kind == "expired" || kind == "reuse":
		return refused(api.ErrGrantToken, f.behind(0))
	case beyond:
		return api.ErrGrantScope
	case kind == "replay":
		return api.OK
	}
	return f.behind(1)
}

// G4: each verdict, with each fault of the table, each wrong argument and each scope; all combinations.
func TestRotateInOrder(t *testing.T) {
	t.Parallel()
	for _, f := range faults() {
		if f.many {
			continue
		}
		t.Run(fmt.Sprint(f), func(t *testing.T) {
			t.Parallel()
			b, texts := faulty(t, f)
			for kind, text := range texts {
				for _, client := range []string{"gone", "off", "app"} {
					for _, scope := range [][]string{names("admin"), nil} {
						for _, s := range []string{secret(30), secret(30)[1:]} {
							c := rotate(client, text, scope, 120, s)
							want := rotateErrno(f, client, kind, len(scope) > 0, len(s) != 24)
							b.tryEach(f, c, want, client == "app" && (kind == "expired" || kind == "reuse"))
						}
					}
				}
			}
		})
	}
}

// tryEach makes a call on the table itself, if it must be refused without a change, else on a copy, by the book.
func (b *both) tryEach(f fault, c call, want api.Errno, ends bool) {
	b.t.Helper()
	if want == api.OK || want == api.ErrGrantToken && ends {
		b.twin(b.t).want(c, want)
		return
	}
	b.trying(f, c, want)
}

// G5: each kind of text and each subject, with each fault of the table.
func TestRevokeInOrder(t *testing.T) {
	t.Parallel()
	for _, f := range faults() {
		t.Run(fmt.Sprint(f), func(t *testing.T) {
			t.Parallel()
			b, texts := faulty(t, f)
			for kind, text := range texts {
				for _, client := range []string{"App", "gone", "off", "app"} {
					want := api.OK
					switch {
					case client == "App":
						want = api.ErrArg
					case f.dead:
						want = api.ErrDead
					case client == "gone":
						want = api.ErrClientNone
					case client == "app" && kind != "none" && kind != "other" && kind != "ended":
						want = f.behind(0)
					}
					b.tryEach(f, revoke(client, text, 120), want, false)
				}
			}
			for _, subject := range []string{"Ann", "nobody", "bob", "ann"} {
				want := api.OK
				switch {
				case subject == "Ann":
					want = api.ErrArg
				case f.dead:
					want = api.ErrDead
				case subject != "nobody":
					want = f.behind(0)
				}
				b.tryEach(f, revokeAll(subject, 120), want, false)
			}
		})
	}
}

// G6: with each fault of the table but a dead disk it tells the same.
func TestIntrospectFaults(t *testing.T) {
	t.Parallel()
	for _, f := range faults() {
		t.Run(fmt.Sprint(f), func(t *testing.T) {
			t.Parallel()
			b, texts := faulty(t, f)
			for _, text := range texts {
				if f.dead {
					b.trying(f, introspect(text, 120), api.ErrDead)
				} else {
					b.want(introspect(text, 120), api.OK)
				}
			}
		})
	}
}

// R4: as much room as a change needs, and a page less: it is refused, or done as a whole.
func TestAlmostFull(t *testing.T) {
	t.Parallel()
	full, texts := faulty(t, fault{ids: 9, full: true})
	for _, c := range []call{
		issue("app", "ann", nil, 120, secret(30)), rotate("app", texts["fresh"], nil, 120, secret(30)), rotate("app", texts["reuse"], nil, 120, secret(30)),
		rotate("app", texts["expired"], nil, 120, secret(30)), revoke("app", texts["replay"], 120), revokeAll("bob", 120), revokeAll("ann", 120),
	} {
		t.Run(c.what, func(t *testing.T) {
			t.Parallel()
			refused, done := 0, 0
			for spare := range 30 {
				d := widened(t, full.d, spare)
				b := &both{t, d, opened(t, d), full.b.copied()}
				before := b.state()
				got := c.do(b.x)
				if got.errno == api.ErrPagerFull && done == 0 && got.same(answer{errno: api.ErrPagerFull}) && b.state() == before {
					refused++
					b.look(c.what)
					continue
				}
				done++
				if want := c.book(b.b); !got.same(want) {
					t.Fatalf("%s: %#v, want %#v", c.what, got, want)
				}
				b.look(c.what)
			}
			if refused == 0 || done == 0 {
				t.Fatalf("the test is wrong: %d refused, %d done", refused, done)
			}
		})
	}
}

// widened is a disk with the same on it, and so many free pages.
func widened(t *testing.T, d *disk.Disk, spare int) *disk.Disk {
	t.Helper()
	blocks := d.Blocks()
	for range spare {
		blocks = append(blocks, many(512, "\x00"))
	}
	g, errno := pager.Mount(d)
	wantErrno(t, "Mount", errno, api.OK)
	head, errno := pager.PrintHead(g.Generation(), g.Root(), len(blocks), g.Note())
	wantErrno(t, "PrintHead", errno, api.OK)
	blocks[g.Generation()%2] = head
	blocks[1-g.Generation()%2] = many(512, "\x00")
	return loaded(t, blocks)
}

// R4: a pin takes the room; behind it the same call is done.
func TestFullByPins(t *testing.T) {
	b := founded(t, 14, 1, 0, three()...)
	text := b.gives(issue("app", "ann", nil, 100, secret(1)))
	refused := false
	for n := range 40 {
		if n < 4 {
			_, errno := b.x.Pager().Pin()
			wantErrno(t, "Pin", errno, api.OK)
		}
		c := rotate("app", text, nil, 101+n, secret(n))
		before, twin := b.state(), b.b.copied()
		got := c.do(b.x)
		if got.errno == api.ErrPagerFull {
			refused = true
			if !got.same(answer{errno: api.ErrPagerFull}) || b.state() != before {
				t.Fatalf("%s: %#v", c.what, got)
			}
			b.b.see(101 + n)
			b.look("no room")
			break
		}
		want := c.book(twin)
		if !got.same(want) {
			t.Fatalf("%s: %#v, want %#v", c.what, got, want)
		}
		b.b, text = twin, want.issued.Token
	}
	if !refused {
		t.Fatal("the test is wrong")
	}
	b.wantRefused(issue("app", "bob", nil, 0, secret(9)), api.ErrPagerFull)
	for pin := range 4 {
		b.x.Pager().Unpin(pin + 1)
	}
	b.want(rotate("app", text, nil, 0, secret(50)), api.OK)
	b.reopen()
}
