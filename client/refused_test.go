package client_test

import (
	"fmt"
	"slices"
	"testing"

	"latchkey/api"
	"latchkey/client"
	"latchkey/disk"
	"latchkey/table"
	"latchkey/trail"
)

// laid is a disk with these clients, and with a trail that begins behind a base, all laid by layers 15 and 16 alone, in one commit.
func laid(t *testing.T, blocks, base, events int, clients ...api.Client) *disk.Disk {
	t.Helper()
	d, x := began(t, blocks)
	x.See(100)
	wantErrno(t, "PutChain", x.PutChain(api.Chain{Base: base, Next: base + 1, BaseHash: digestOf("base"), NextHash: digestOf("base")}), api.OK)
	for range events {
		_, errno := trail.Note(x, api.EventKey, 0, "")
		wantErrno(t, "Note", errno, api.OK)
	}
	for _, c := range clients {
		wantErrno(t, "PutClient", x.PutClient(c), api.OK)
	}
	wantErrno(t, "Commit", x.Commit(), api.OK)
	return d
}

// kept is a client as a table has it.
func kept(c api.Client, secret string) api.Client {
	c.Hash = digestOf(secret)
	return c
}

// three are app, a public one and one that is off.
func three() []api.Client {
	off := kept(someClient("off"), p)
	off.Off = true
	return []api.Client{kept(app(), p), off, publicClient("web")}
}

// told is all that a table tells of clients and of its trail.
func told(t *testing.T, x *table.Table) string {
	t.Helper()
	l, errno := x.Clients()
	wantErrno(t, "Clients", errno, api.OK)
	c, events, errno := trail.Read(x)
	wantErrno(t, "Read", errno, api.OK)
	return fmt.Sprintf("%q %v %q %v", fmt.Sprint(l), c, fmt.Sprint(events), x.Pager().Generation())
}

// wantAsItWas is that a call answers an error, does no act, and leaves a table as it was; what stands there, too.
func wantAsItWas(t *testing.T, d *disk.Disk, x *table.Table, c call, want api.Errno) {
	t.Helper()
	was, acts, blocks := told(t, x), d.Acts(), d.Blocks()
	got, errno := c.do(x)
	if errno != want || !sameClient(got, api.Client{}) {
		t.Fatalf("%s: %#v, %d; want %d", c.what, got, errno, want)
	}
	if is := told(t, x); is != was || d.Acts() != acts || !slices.Equal(d.Blocks(), blocks) || len(d.Pending()) > 0 || x.Pager().Doubt() {
		t.Fatalf("%s: %s, %d acts; it was %s", c.what, is, d.Acts()-acts, was)
	}
	wantNothingElse(t, c.what, x)
}

// changes are calls of app, web and off that change something.
func changes() []call {
	off := app()
	off.Name, off.Off = "fourth", true
	return []call{
		register(someClient("fourth"), q, 200), register(publicClient("fourth"), "", 200), register(off, q, 200), register(greatest("fourth"), q, 200),
		renew("app", q, 30, 200), renew("off", q, 0, 200), renew("app", p, most, 200), turn("app", true, 200), turn("off", false, 200), turn("web", true, 200),
	}
}

// wantRefusals is that a table on which nothing can be changed refuses each change by an error, tells each call's own errors ahead of it, and answers all else as ever.
func wantRefusals(t *testing.T, d *disk.Disk, want api.Errno) {
	t.Helper()
	x := opened(t, d)
	for range 2 {
		for _, c := range changes() {
			wantAsItWas(t, d, x, c, want)
		}
		bad := app()
		bad.Scope = []string{"b", "a"}
		wantAsItWas(t, d, x, register(bad, p, 200), api.ErrClientField)
		wantAsItWas(t, d, x, register(app(), p, 200), api.ErrClientThere)
		wantAsItWas(t, d, x, renew("app", p[1:], 0, 200), api.ErrClientField)
		wantAsItWas(t, d, x, renew("web", p, 0, 200), api.ErrClientField)
		wantAsItWas(t, d, x, renew("nobody", p, 0, 200), api.ErrClientNone)
		wantAsItWas(t, d, x, turn("nobody", true, 200), api.ErrClientNone)
		wantAsItWas(t, d, x, turn("app", false, 200), api.OK)
		wantAsItWas(t, d, x, turn("off", true, 200), api.OK)
		wantAsItWas(t, d, x, ask("off", p, 200), api.ErrClientOff)
		wantAsItWas(t, d, x, ask("app", q, 200), api.ErrClientSecret)
		if c, errno := client.Check(x, "app", p, 200); errno != api.OK || !sameClient(c, kept(app(), p)) {
			t.Fatalf("Check: %#v, %d", c, errno)
		}
	}
	if x.Now() != 200 {
		t.Fatalf("the time is %d", x.Now())
	}
	if other := opened(t, loaded(t, d.Blocks())); told(t, other) != told(t, x) || other.Now() != 100 {
		t.Fatal("another table stands there")
	}
}

// R4: no number is left for the event.
func TestTableWorn(t *testing.T) {
	wantRefusals(t, laid(t, 32, lastID, 0, three()...), api.ErrTableWorn)
	wantRefusals(t, laid(t, 32, lastID-32, 32, three()...), api.ErrTableWorn)
	wantRefusals(t, laid(t, 32, lastID-5, 5, three()...), api.ErrTableWorn)
}

// R4: one number is left: it is given, and then none.
func TestTableAlmostWorn(t *testing.T) {
	for _, c := range changes() {
		for _, events := range []int{0, 1, 31, 32} {
			d := laid(t, 64, lastID-1-events, events, three()...)
			x := opened(t, d)
			if _, errno := c.do(x); errno != api.OK {
				t.Fatalf("%s: %d", c.what, errno)
			}
			chain, l, errno := trail.Read(x)
			last := api.Event{Number: lastID, Time: 200, Kind: api.EventClient}
			if errno != api.OK || chain.Next != lastID+1 || trail.Verify(chain, l) != api.OK || len(l) != min(events+1, 32) {
				t.Fatalf("%s: %#v, %d events, %d", c.what, chain, len(l), errno)
			}
			if last.Who = l[len(l)-1].Who; l[len(l)-1] != last {
				t.Fatalf("%s: %#v", c.what, l[len(l)-1])
			}
			for _, other := range []call{register(someClient("fifth"), q, 200), renew("app", r, 30, 200), turn("app", !offOf(t, x, "app"), 200)} {
				wantAsItWas(t, d, x, other, api.ErrTableWorn)
			}
		}
	}
}

func offOf(t *testing.T, x *table.Table, name string) bool {
	t.Helper()
	c, errno := x.Client(name)
	wantErrno(t, "Client", errno, api.OK)
	return c.Off
}

// R4: with eight clients that is told ahead of a number that is not left.
func TestTableWornAndMany(t *testing.T) {
	l := three()
	for n := range 5 {
		l = append(l, publicClient(fmt.Sprint("c", n)))
	}
	d := laid(t, 32, lastID, 0, l...)
	x := opened(t, d)
	wantAsItWas(t, d, x, register(someClient("ninth"), p, 200), api.ErrClientMany)
	wantAsItWas(t, d, x, register(app(), p, 200), api.ErrClientThere)
	wantAsItWas(t, d, x, turn("c0", true, 200), api.ErrTableWorn)
}

// R4: no generation is left.
func TestPagerWorn(t *testing.T) {
	wantRefusals(t, aged(t, laid(t, 32, 0, 0, three()...), worn), api.ErrPagerWorn)
	wantRefusals(t, aged(t, laid(t, 64, 7, 32, three()...), worn), api.ErrPagerWorn)
	for _, c := range changes() {
		d := aged(t, laid(t, 64, 7, 32, three()...), worn-1)
		x := opened(t, d)
		if _, errno := c.do(x); errno != api.OK {
			t.Fatalf("%s: %d", c.what, errno)
		}
		wantAsItWas(t, d, x, register(someClient("fifth"), p, 200), api.ErrPagerWorn)
	}
}

// tight is a disk on which no page is free.
func tight(t *testing.T, base, events int, clients ...api.Client) *disk.Disk {
	t.Helper()
	pages := len(opened(t, laid(t, 128, base, events, clients...)).Pager().Reached())
	d := laid(t, 2+pages, base, events, clients...)
	if free := opened(t, d).Pager().Free(); free != 0 {
		t.Fatalf("the test is wrong: %d are free", free)
	}
	return d
}

// R4: no page is free.
func TestPagerFull(t *testing.T) {
	l := append(three(), kept(greatest("c1"), p), kept(greatest("c2"), p), kept(greatest("c3"), p))
	wantRefusals(t, tight(t, 0, 30, l...), api.ErrPagerFull)
	wantRefusals(t, tight(t, 9, 32, l...), api.ErrPagerFull)
}

// R4: of no event number, no room and no generation the first one is told, then the second one.
func TestRefusalsInOrder(t *testing.T) {
	l := append(three(), kept(greatest("c1"), p), kept(greatest("c2"), p), kept(greatest("c3"), p))
	wantRefusals(t, tight(t, lastID-32, 32, l...), api.ErrTableWorn)
	wantRefusals(t, aged(t, laid(t, 32, lastID-32, 32, l...), worn), api.ErrTableWorn)
	wantRefusals(t, aged(t, tight(t, lastID-32, 32, l...), worn), api.ErrTableWorn)
	wantRefusals(t, aged(t, tight(t, 5, 32, l...), worn), api.ErrPagerFull)
}

// R4: as much room as a change needs, and a page less: it is refused, or done as a whole.
func TestPagerAlmostFull(t *testing.T) {
	l := append(three(), kept(greatest("c1"), p), kept(greatest("c2"), p), kept(greatest("c3"), p))
	pages := len(opened(t, laid(t, 128, 0, 32, l...)).Pager().Reached())
	for _, c := range changes() {
		refused, done := 0, 0
		for spare := range 12 {
			d := laid(t, 2+pages+spare, 0, 32, l...)
			x := opened(t, d)
			was := told(t, x)
			_, errno := c.do(x)
			if errno == api.ErrPagerFull && done == 0 && told(t, x) == was {
				refused++
				continue
			}
			wantErrno(t, c.what, errno, api.OK)
			if done++; told(t, opened(t, loaded(t, d.Blocks()))) != told(t, x) || told(t, x) == was {
				t.Fatalf("%s: it is not what stands", c.what)
			}
		}
		if refused == 0 || done == 0 {
			t.Fatalf("the test is wrong: %s: %d refused, %d done", c.what, refused, done)
		}
	}
}

// R4: a pin takes the room; behind it the same call is done.
func TestPagerFullByPin(t *testing.T) {
	b := newBoth(t, 8)
	b.want(register(app(), p, 100), api.OK)
	pins := 0
	for range 4 {
		pin, errno := b.x.Pager().Pin()
		wantErrno(t, "Pin", errno, api.OK)
		pins = pin
		b.want(turn("app", pin%2 == 1, 100), api.OK)
	}
	if b.x.Pager().Free() != 1 || pins != 4 {
		t.Fatalf("the test is wrong: %d are free", b.x.Pager().Free())
	}
	b.want(renew("app", q, 5, 100), api.OK) // from here on there is room for one page, and no more
	wide := greatest("wide")
	before := b.state()
	wantErrno(t, "Register", client.Register(b.x, wide, p, 101), api.ErrPagerFull)
	if after := b.state(); !after.same(before) {
		t.Fatalf("%d acts", after.acts-before.acts)
	}
	b.b.see(101)
	b.look("no room")
	for pin := range 4 {
		wantErrno(t, "Unpin", b.x.Pager().Unpin(pin+1), api.OK)
	}
	b.want(register(wide, p, 101), api.OK)
	b.reopen()
}
