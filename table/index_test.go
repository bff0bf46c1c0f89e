package table_test

import (
	"testing"

	"latchkey/api"
)

// B9: behind each call, committed, and behind all of them, committed together, the entries are just those of the records; where a Put changes a subject, an end, a generation, a family, or nothing.
func TestEntries(t *testing.T) {
	used := someFamily(3, 4, 100, "ann")
	used.Used = 140
	for _, every := range []bool{true, false} {
		b := bothOf(t, 128, lists{next: 1}, 0)
		for _, c := range []call{
			putFamily(someFamily(3, 4, 100, "ann")), putFamily(someFamily(3, 4, 100, "ann")), putFamily(someFamily(3, 4, 100, "bob")), putFamily(someFamily(3, 4, 101, "bob")), putFamily(used),
			putFamily(endedFamily(3, 4, 160, "ann")), putFamily(endedFamily(3, 4, 190, "ann")), putFamily(endedFamily(3, 4, 0, "eve")), putFamily(someFamily(3, 4, lastTime, "eve")),
			putFamily(someFamily(5, 6, 100, "eve")), putToken(current(4, 3, 1)), putToken(spent(4, 3, 1, 6)), putToken(current(6, 3, 2)), putToken(current(6, 3, 3)), putToken(current(6, 5, 3)), putToken(current(6, 5, 1)),
			putToken(current(7, 5, 2)), removeFamily(3), putFamily(someFamily(3, 4, 7, "ann")), removeFamily(5), putToken(current(7, 5, 2)), putToken(current(7, 5, 1)), removeFamily(3),
			putClient(someClient("ann")), putCode(freshCode(3)), putKey(someKey(3)), putEvent(someEvent(3)), putChain(someChain(1, 2)), removeCode(3), removeKey(3), removeEvent(3),
		} {
			b.calls(c)
			if every {
				b.calls(commit())
				wantStanding(t, "behind "+c.what, b.d, b.p.pairs(t))
			}
		}
		b.calls(commit())
		wantStanding(t, "behind all", b.d, b.p.pairs(t))
	}
}

// B9: what was begun and taken back leaves no entry, and no change: a commit writes no page.
func TestEntriesTakenBack(t *testing.T) {
	b := bothAtHome(t)
	for _, l := range [][]call{
		{putFamily(someFamily(20, 21, 5, "zed")), putToken(current(21, 20, 1)), removeFamily(20)},
		{putFamily(someFamily(3, 4, 500, "zed")), putFamily(home().families[0])},
		{putToken(current(4, 99, 7)), putToken(home().tokens[0])},
		{removeFamily(3), putFamily(home().families[0]), putToken(home().tokens[0])},
		{putClient(publicClient("new")), abort()},
		{removeCode(13), putCode(home().codes[0]), removeKey(1), putKey(someKey(1)), removeEvent(3), putEvent(someEvent(3)), putChain(someChain(0, 1)), putChain(home().chains[0])},
	} {
		b.calls(l...)
		acts, root := b.d.Acts(), b.x.Pager().Root()
		b.calls(commit())
		if b.d.Acts() != acts+3 || b.x.Pager().Root() != root {
			t.Fatalf("%s and more: %d acts", l[0].what, b.d.Acts()-acts)
		}
		wantStanding(t, l[0].what, b.d, home().pairs(t))
		b.reopen()
	}
}

// B9: a token whose place another one takes over, all within one commit.
func TestEntriesChangePlaces(t *testing.T) {
	b := bothAtHome(t)
	b.calls(putToken(current(8, 5, 100)), putToken(current(6, 5, 1)), putToken(current(8, 5, 2)))
	wantCall(t, b.x, tokensOf(5), []api.Token{current(6, 5, 1), current(8, 5, 2), home().tokens[3]}, api.OK)
	b.calls(commit())
	wantStanding(t, "changed places", b.d, b.p.pairs(t))
}
