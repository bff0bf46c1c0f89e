package table_test

import (
	"testing"

	"latchkey/api"
)

// B7: a record in the place of the one of its Name, ID or Number, whether that stands or was begun.
func TestPutOver(t *testing.T) {
	off := publicClient("app")
	off.Scope = []string{"a", "b", "c"}
	moved := someFamily(3, 4, 600, "bob")
	ended := endedFamily(3, 4, 700, "ann")
	late := someKey(2)
	late.Until = 9000
	other := someEvent(4)
	other.Kind, other.Who, other.Family = api.EventKey, "", 0
	for _, committed := range []bool{false, true} {
		b := bothAtHome(t)
		for _, c := range []call{
			putClient(off), putClient(someClient("app")), putClient(off), putFamily(moved), putFamily(ended), putFamily(someFamily(3, 9, 0, "a")), putFamily(moved),
			putToken(spent(4, 3, 1, 9)), putToken(current(4, 3, 2)), putToken(current(4, 77, 1)), putToken(current(4, 3, 1)), putCode(spentCode(14, 3)), putCode(freshCode(14)), putCode(spentCode(14, 77)),
			putKey(late), putKey(someKey(2)), putEvent(other), putEvent(someEvent(4)), putEvent(other), putChain(someChain(0, 33)), putChain(someChain(3, 4)),
		} {
			b.calls(c)
			if committed {
				b.calls(commit())
			}
		}
		b.calls(commit())
		wantStanding(t, "put over", b.d, b.p.pairs(t))
	}
}

// B7: whether records belong together is not looked at, nor how many there are, nor the next ID, nor the time.
func TestPutAnything(t *testing.T) {
	b := bothOf(t, 256, lists{next: 1}, 0)
	for n := range 12 {
		b.call(putClient(someClient("c" + string([]byte{byte('a' + n)}))))
		b.call(putCode(freshCode(5000 + n)))
		b.call(putKey(someKey(70 + n)))
		b.call(putEvent(someEvent(1000 * (n + 1))))
		b.call(putFamily(someFamily(9000, 1, lastTime-n, "ann")))
		b.call(putToken(spent(7000+n, 6000, 100-n, lastID)))
	}
	b.calls(putChain(someChain(5, 7)), commit(), nextID())
	wantStanding(t, "anything", b.d, b.p.pairs(t))
	wantRefused(t, "anything", b.d, api.ErrTableForm)
}

// B7: records that may not be.
func TestPutWrong(t *testing.T) {
	b := bothAtHome(t)
	wrong := func(c call) {
		t.Helper()
		wantCall(t, b.x, c, nil, api.ErrRecordField)
		b.call(c)
	}
	for _, turn := range []func(c *api.Client){
		func(c *api.Client) { c.Name = "" }, func(c *api.Client) { c.Name = "App" }, func(c *api.Client) { c.Name = many(17, "a") }, func(c *api.Client) { c.Hash = "" }, func(c *api.Client) { c.Public = true },
		func(c *api.Client) { c.Until = 1 }, func(c *api.Client) { c.Scope = []string{"b", "a"} }, func(c *api.Client) { c.Idle = 0 }, func(c *api.Client) { c.Life = lastTime + 1 }, func(c *api.Client) { c.Grace = -1 },
	} {
		c := someClient("app")
		turn(&c)
		wrong(putClient(c))
	}
	for _, turn := range []func(f *api.Family){
		func(f *api.Family) { f.ID = 0 }, func(f *api.Family) { f.ID = lastID + 1 }, func(f *api.Family) { f.Token = 0 }, func(f *api.Family) { f.Gen = 0 }, func(f *api.Family) { f.Gen = lastGen + 1 }, func(f *api.Family) { f.Code = -1 },
		func(f *api.Family) { f.Used = f.Created - 1 }, func(f *api.Family) { f.State = 0 }, func(f *api.Family) { f.State = 5 }, func(f *api.Family) { f.Ended = 500 }, func(f *api.Family) { f.Subject = "" }, func(f *api.Family) { f.Client = "A" },
	} {
		f := someFamily(3, 4, 100, "ann")
		turn(&f)
		wrong(putFamily(f))
	}
	for _, turn := range []func(k *api.Token){
		func(k *api.Token) { k.ID = 0 }, func(k *api.Token) { k.ID = least }, func(k *api.Token) { k.Family = 0 }, func(k *api.Token) { k.Family = most }, func(k *api.Token) { k.Gen = 0 }, func(k *api.Token) { k.Hash = "" },
		func(k *api.Token) { k.Next = 0 }, func(k *api.Token) { k.Spent = false }, func(k *api.Token) { k.At = k.Minted - 1 }, func(k *api.Token) { k.Secret = k.Secret[1:] }, func(k *api.Token) { k.Minted = -1 },
	} {
		k := spent(4, 3, 1, 9)
		turn(&k)
		wrong(putToken(k))
	}
	for _, turn := range []func(c *api.Code){
		func(c *api.Code) { c.ID = 0 }, func(c *api.Code) { c.ID = lastID + 1 }, func(c *api.Code) { c.State = 1 }, func(c *api.Code) { c.State = 3 }, func(c *api.Code) { c.Family = 0 }, func(c *api.Code) { c.Hash = "" }, func(c *api.Code) { c.Until = -1 },
	} {
		c := spentCode(13, 10)
		turn(&c)
		wrong(putCode(c))
	}
	for _, k := range []api.Key{{}, {Number: 1}, {Number: 0, Secret: many(24, "s")}, {Number: lastKey + 1, Secret: many(24, "s")}, {Number: 1, Secret: many(24, "s"), From: 2, Until: 1}, {Number: least, Secret: many(24, "s")}} {
		wrong(putKey(k))
	}
	for _, e := range []api.Event{{}, {Number: 3}, {Number: 0, Kind: 1}, {Number: lastID + 1, Kind: 1}, {Number: 3, Kind: 10}, {Number: 3, Kind: 1, Family: -1}, {Number: 3, Kind: 1, Who: "A"}, {Number: 3, Kind: 1, Time: lastTime + 1}} {
		wrong(putEvent(e))
	}
	for _, c := range []api.Chain{{}, someChain(-1, 1), someChain(3, 3), someChain(3, 2), someChain(0, 34), someChain(lastID+1, lastID+2), someChain(most, least), {Base: 0, Next: 1, BaseHash: digest(1)}} {
		wrong(putChain(c))
	}
	wantHas(t, "behind all that may not be", b.x, b.p)
	acts := b.d.Acts()
	b.calls(commit())
	if b.d.Acts() != acts+3 {
		t.Errorf("%d acts", b.d.Acts()-acts)
	}
	b.reopen()
}

// B7: another token of a family's generation, and the same one again.
func TestPutTokenTwice(t *testing.T) {
	for _, committed := range []bool{false, true} {
		b := bothAtHome(t)
		turn := func(c call, want api.Errno) {
			t.Helper()
			if _, errno := c.do(b.x); errno != want {
				t.Fatalf("%s: %d, want %d", c.what, errno, want)
			}
			c.do(b.p)
			wantHas(t, c.what, b.x, b.p)
			if committed {
				b.calls(commit())
			}
		}
		turn(putToken(current(20, 5, 2)), api.ErrTableForm)
		turn(putToken(current(4, 5, 2)), api.ErrTableForm) // one that is another family's
		turn(putToken(current(9, 5, 2)), api.ErrTableForm) // one of the same family
		turn(putToken(current(lastID, 5, 3)), api.ErrTableForm)
		turn(putToken(spent(6, 5, 2, 77)), api.OK) // itself
		turn(putToken(spent(6, 5, 2, 9)), api.OK)
		turn(putToken(current(20, 5, 4)), api.OK)
		turn(putToken(current(21, 5, 4)), api.ErrTableForm)
		turn(putToken(current(20, 5, 5)), api.OK) // it goes elsewhere
		turn(putToken(current(21, 5, 4)), api.OK) // so there is room
		turn(putToken(current(20, 5, 4)), api.ErrTableForm)
		turn(putToken(current(20, 5, 5)), api.OK)
		turn(putToken(current(21, 99, 4)), api.OK)
		turn(putToken(current(20, 5, 4)), api.OK)
		turn(putToken(current(22, 99, 4)), api.ErrTableForm)
		turn(removeFamily(5), api.OK)
		turn(putToken(current(30, 5, 4)), api.OK) // they are gone
		turn(putToken(current(31, 5, 2)), api.OK)
		turn(putToken(api.Token{ID: 31, Family: 5, Gen: 4}), api.ErrRecordField) // ahead of ErrTableForm
		b.d.Arm(1)
		b.d.Sync()
		b.p.dead = true
		b.call(putToken(current(32, 5, 4))) // ErrDead ahead of it
		wantCall(t, b.x, putToken(current(32, 5, 4)), nil, api.ErrDead)
	}
}

// B8: a family with its tokens, and nobody else's.
func TestRemove(t *testing.T) {
	for _, committed := range []bool{false, true} {
		b := bothAtHome(t)
		for _, c := range []call{
			putToken(current(30, 4, 9)), putToken(current(31, 6, 1)), putToken(current(32, 5, lastGen)), putToken(current(33, 5, 255)), putToken(current(34, 5, 256)),
			removeFamily(5), removeFamily(5), removeFamily(4), removeFamily(1), removeFamily(lastID), removeFamily(0), removeFamily(lastID + 1), removeFamily(least), removeFamily(most),
			putFamily(someFamily(5, 9, 10, "bob")), removeFamily(5), removeFamily(257), removeFamily(3), removeFamily(10), removeFamily(10),
			removeCode(13), removeCode(13), removeCode(14), removeCode(256), removeCode(0), removeCode(-1), removeCode(lastID), removeCode(lastID + 1),
			removeKey(1), removeKey(1), removeKey(256), removeKey(0), removeKey(-1), removeKey(lastKey), removeKey(lastKey + 1), removeKey(2),
			removeEvent(4), removeEvent(4), removeEvent(3), removeEvent(5), removeEvent(6), removeEvent(0), removeEvent(lastID), removeEvent(lastID + 1), removeEvent(least),
			putEvent(someEvent(4)), putKey(someKey(1)), putCode(freshCode(13)), removeEvent(4), removeKey(1), removeCode(13),
		} {
			b.calls(c)
			if committed {
				b.calls(commit())
			}
		}
		b.calls(commit())
		wantStanding(t, "what is left", b.d, b.p.pairs(t))
	}
}

// B8: the answers themselves.
func TestRemoveAnswers(t *testing.T) {
	_, x := atHome(t)
	for _, c := range []call{removeFamily(0), removeFamily(lastID + 1), removeFamily(least), removeCode(0), removeCode(lastID + 1), removeCode(-5), removeEvent(0), removeEvent(lastID + 1), removeKey(0), removeKey(lastKey + 1), removeKey(-1)} {
		wantCall(t, x, c, nil, api.ErrArg)
	}
	for _, c := range []call{removeFamily(1), removeFamily(4), removeFamily(lastID), removeCode(1), removeCode(3), removeCode(lastID), removeEvent(1), removeEvent(lastID), removeEvent(lastKey + 1), removeKey(3), removeKey(lastKey)} {
		wantCall(t, x, c, nil, api.ErrTableNone)
	}
	wantHas(t, "nothing is gone", x, newPlain(home(), homeTime))
	for _, c := range []call{removeFamily(5), removeCode(13), removeEvent(4), removeKey(256)} {
		wantCall(t, x, c, nil, api.OK)
		wantCall(t, x, c, nil, api.ErrTableNone)
	}
	for _, id := range []int{6, 8, 9} {
		wantCall(t, x, getToken(id), nil, api.ErrTableNone)
	}
	wantCall(t, x, tokensOf(5), []api.Token{}, api.OK)
	wantCall(t, x, getFamily(5), nil, api.ErrTableNone)
	wantCall(t, x, ofSubject("bob"), []int{}, api.OK)
	wantCall(t, x, getToken(4), home().tokens[0], api.OK)
	wantCall(t, x, allKeys(), []api.Key{someKey(1), someKey(2)}, api.OK)
	wantCall(t, x, allEvents(), []api.Event{someEvent(3), someEvent(5)}, api.OK)
}

// B8: tokens of a family that is not there are no matter of Remove.
func TestRemoveOfNoFamily(t *testing.T) {
	_, x := began(t, 32)
	wantErrno(t, "PutToken", x.PutToken(current(4, 3, 1)), api.OK)
	wantErrno(t, "Remove", x.Remove(3), api.ErrTableNone)
	wantCall(t, x, tokensOf(3), []api.Token{current(4, 3, 1)}, api.OK)
	wantErrno(t, "Commit", x.Commit(), api.OK)
	wantErrno(t, "Remove", x.Remove(3), api.ErrTableNone)
	wantCall(t, x, tokensOf(3), []api.Token{current(4, 3, 1)}, api.OK)
}
