package table_test

import (
	"testing"

	"latchkey/api"
)

// asking are calls of each kind that ask the disk, whatever their arguments are; of records that are there, and of such as are not.
func asking() []call {
	return []call{
		nextID(), getClient("app"), getClient("nobody"), allClients(), putClient(someClient("app")), putClient(someClient("new")),
		getFamily(3), getFamily(lastID), putFamily(someFamily(3, 4, 1, "ann")), removeFamily(3), removeFamily(1),
		ofSubject("ann"), ofSubject("nobody"), ending(0, 9), ending(lastTime, 0), ending(lastTime, 9), ending(least, least),
		getToken(4), getToken(1), tokensOf(5), tokensOf(1), putToken(current(4, 3, 1)), putToken(current(20, 3, 1)), putToken(current(20, 3, 2)),
		getCode(13), getCode(1), allCodes(), putCode(freshCode(20)), removeCode(13), removeCode(1),
		allKeys(), putKey(someKey(1)), removeKey(1), removeKey(9), theChainCall(), putChain(someChain(2, 6)),
		allEvents(), putEvent(someEvent(3)), removeEvent(3), removeEvent(9), commit(),
	}
}

// refusing are calls that are refused for their arguments alone, and how.
func refusing() map[api.Errno][]call {
	wrong := someFamily(3, 4, 1, "ann")
	wrong.Gen = 0
	l := map[api.Errno][]call{
		api.ErrArg:         {getClient(""), getClient("APP"), ofSubject(""), ofSubject("a b"), ofSubject(many(17, "a")), removeKey(lastKey + 1), removeKey(lastID)},
		api.ErrRecordField: {putClient(api.Client{}), putFamily(api.Family{}), putFamily(wrong), putToken(api.Token{ID: 6}), putCode(api.Code{}), putKey(api.Key{}), putChain(api.Chain{}), putEvent(api.Event{})},
	}
	for _, n := range []int{least, -lastID, -1, 0, lastID + 1, most} {
		l[api.ErrArg] = append(l[api.ErrArg], getFamily(n), getToken(n), getCode(n), tokensOf(n), removeFamily(n), removeCode(n), removeKey(n), removeEvent(n))
	}
	return l
}

// R3: of a dead disk each of these answers ErrDead, ahead of all that hangs on what stands there; from then on the table is in doubt, also when the disk lives again.
func TestDead(t *testing.T) {
	for _, c := range asking() {
		d, x := atHome(t)
		kill(t, d)
		wantCall(t, x, c, nil, api.ErrDead)
		wantErrno(t, "Crash", d.Crash(nil), api.OK)
		if !x.Pager().Doubt() {
			t.Fatalf("%s: the pager is not in doubt", c.what)
		}
		for _, again := range asking() {
			wantCall(t, x, again, nil, api.ErrDead)
		}
		x.Abort()
		wantCall(t, x, c, nil, api.ErrDead)
		wantTable(t, "opened anew", d, home(), homeTime)
	}
}

// R3: what hangs on the arguments alone is told ahead of ErrDead, and lets nobody doubt.
func TestRefusedAheadOfDead(t *testing.T) {
	for errno, l := range refusing() {
		for _, c := range l {
			d, x := atHome(t)
			kill(t, d)
			wantCall(t, x, c, nil, errno)
			if x.Pager().Doubt() {
				t.Fatalf("%s: the pager is in doubt", c.what)
			}
			wantErrno(t, "Crash", d.Crash(nil), api.OK)
			wantCall(t, x, c, nil, errno)
			wantHas(t, c.what, x, newPlain(home(), homeTime))
			kill(t, d)
			wantCall(t, x, allKeys(), nil, api.ErrDead)
			wantCall(t, x, c, nil, errno)
		}
	}
}

// R1: what is refused changes nothing, also if something was begun.
func TestRefusedChangesNothing(t *testing.T) {
	b := bothAtHome(t)
	b.calls(putClient(someClient("new")), nextID(), removeFamily(5))
	for errno, l := range refusing() {
		for _, c := range l {
			wantCall(t, b.x, c, nil, errno)
		}
	}
	wantHas(t, "behind all that was refused", b.x, b.p)
	b.calls(commit(), nextID())
	b.reopen()
}

// R3: in doubt a table has what it had, as soon as it is opened anew; what was begun is not there.
func TestDoubtForgets(t *testing.T) {
	d, x := atHome(t)
	wantErrno(t, "PutClient", x.PutClient(someClient("new")), api.OK)
	wantErrno(t, "Remove", x.Remove(5), api.OK)
	kill(t, d)
	wantErrno(t, "Commit", x.Commit(), api.ErrDead)
	wantErrno(t, "Crash", d.Crash(nil), api.OK)
	wantErrno(t, "Commit", x.Commit(), api.ErrDead)
	wantTable(t, "opened anew", d, home(), homeTime)
}
