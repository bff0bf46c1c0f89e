package table_test

import (
	"fmt"
	"testing"

	"latchkey/api"
)

// turn is what is done to records that belong together; whether they do then.
type turn struct {
	what    string
	do      func(l *lists)
	belongs bool
}

// wantTurns is that Open takes, or refuses, the records of home as they are turned, each turn alone.
func wantTurns(t *testing.T, turns ...turn) {
	t.Helper()
	for _, c := range turns {
		l := home().copied()
		c.do(&l)
		wantBelongs(t, c.what, l, homeTime, c.belongs)
	}
}

// wantBelongs is that Open takes a disk with these records, or refuses it; also if the indexes are to be mended.
func wantBelongs(t *testing.T, what string, l lists, now int, belongs bool) {
	t.Helper()
	if l.belong(now) != belongs {
		t.Fatalf("%s: the test is wrong", what)
	}
	d := built(t, 128, l, now)
	bare := laid(t, 128, l.records(t), noteOf(t, l.next, now))
	if !belongs {
		wantRefused(t, what, d, api.ErrTableForm)
		wantRefused(t, what+", without entries", bare, api.ErrTableForm)
		return
	}
	wantTable(t, what, d, l, now)
	opened(t, bare)
	wantTable(t, what+", mended", bare, l, now)
}

// B2: as many as there may be, and one more.
func TestBelongMany(t *testing.T) {
	clients := func(n int) func(l *lists) {
		return func(l *lists) {
			for len(l.clients) < n {
				l.clients = append(l.clients, someClient(fmt.Sprintf("c%d", len(l.clients))))
			}
		}
	}
	codes := func(n int) func(l *lists) {
		return func(l *lists) {
			for len(l.codes) < n+1 { // one is spent
				l.codes = append(l.codes, freshCode(20+len(l.codes)))
			}
		}
	}
	keys := func(n int) func(l *lists) {
		return func(l *lists) {
			for len(l.keys) < n {
				l.keys = append(l.keys, someKey(20+len(l.keys)))
			}
		}
	}
	wantTurns(t, turn{"8 clients", clients(8), true}, turn{"9 clients", clients(9), false}, turn{"20 clients", clients(20), false},
		turn{"8 fresh codes", codes(8), true}, turn{"9 fresh codes", codes(9), false}, turn{"30 fresh codes", codes(30), false},
		turn{"4 keys", keys(4), true}, turn{"5 keys", keys(5), false}, turn{"9 keys", keys(9), false},
		turn{"all of them", func(l *lists) { clients(8)(l); codes(8)(l); keys(4)(l) }, true},
		turn{"nothing", func(l *lists) { *l = lists{next: 1} }, true},
		turn{"8 of 8 and 20 spent codes", func(l *lists) {
			codes(8)(l)
			for n := range 20 {
				f := someFamily(100+n, 130+n, 0, "eve")
				f.Code = 160 + n
				l.families = append(l.families, f)
				l.tokens = append(l.tokens, current(130+n, 100+n, 1))
				l.codes = append(l.codes, spentCode(160+n, 100+n))
			}
		}, true},
	)
}

// token is a place in the list of a token.
func token(l *lists, id int) *api.Token {
	for n := range l.tokens {
		if l.tokens[n].ID == id {
			return &l.tokens[n]
		}
	}
	panic("the test is wrong")
}

func family(l *lists, id int) *api.Family {
	for n := range l.families {
		if l.families[n].ID == id {
			return &l.families[n]
		}
	}
	panic("the test is wrong")
}

func code(l *lists, id int) *api.Code {
	for n := range l.codes {
		if l.codes[n].ID == id {
			return &l.codes[n]
		}
	}
	panic("the test is wrong")
}

// drop takes tokens away.
func drop(ids ...int) func(l *lists) {
	return func(l *lists) {
		for _, id := range ids {
			*token(l, id) = l.tokens[0]
			l.tokens = l.tokens[1:]
		}
	}
}

// B2: whose the tokens are.
func TestBelongFamilies(t *testing.T) {
	wantTurns(t,
		turn{"a token of no family", func(l *lists) { l.tokens = append(l.tokens, current(20, 21, 1)) }, false},
		turn{"a token of a family below all", func(l *lists) { l.tokens = append(l.tokens, current(20, 1, 1)) }, false},
		turn{"a token of a family between", func(l *lists) { l.tokens = append(l.tokens, current(20, 4, 1)) }, false},
		turn{"a token of a family above all", func(l *lists) { l.tokens = append(l.tokens, current(20, lastID, 1)) }, false},
		turn{"tokens without families", func(l *lists) { l.families, l.codes = nil, nil }, false},
		turn{"a family gone", func(l *lists) { l.families = l.families[1:] }, false},
		turn{"the last family gone", func(l *lists) { l.families = l.families[:3] }, false},
		turn{"a family without tokens", func(l *lists) { l.families = append(l.families, someFamily(20, 21, 0, "ann")) }, false},
		turn{"a family whose token is another's", func(l *lists) { l.families = append(l.families, someFamily(20, 4, 0, "ann")) }, false},
		turn{"families without tokens", func(l *lists) { l.tokens = nil }, false},
		turn{"a family with its token", func(l *lists) {
			l.families = append(l.families, someFamily(20, 21, 0, "ann"))
			l.tokens = append(l.tokens, current(21, 20, 1))
		}, true},
		turn{"a family and a token of one ID", func(l *lists) {
			l.families = append(l.families, someFamily(20, 20, 0, "ann"))
			l.tokens = append(l.tokens, current(20, 20, 1))
		}, true},
		turn{"a family and its token gone", func(l *lists) { l.families = l.families[1:]; drop(4)(l) }, true},
		turn{"two families' tokens by turns", func(l *lists) { token(l, 4).Family, token(l, 258).Family = 257, 3 }, false},
		turn{"two families' tokens and who they are by turns", func(l *lists) {
			token(l, 4).Family, token(l, 258).Family = 257, 3
			family(l, 3).Token, family(l, 257).Token = 258, 4
		}, true},
	)
}

// B2: which generations there are.
func TestBelongGenerations(t *testing.T) {
	wantTurns(t,
		turn{"the first one missing", drop(8), false},
		turn{"one between missing", drop(6), false},
		turn{"the last one missing", drop(9), false},
		turn{"two missing", drop(6, 8), false},
		turn{"all missing", drop(6, 8, 9), false},
		turn{"the first one missing, with another Gen", func(l *lists) { drop(8)(l); family(l, 5).Gen = 2 }, false},
		turn{"the last one missing, with another Gen", func(l *lists) { drop(9)(l); family(l, 5).Gen = 2 }, false},
		turn{"the last one missing, and all to it", func(l *lists) {
			drop(9)(l)
			family(l, 5).Gen, family(l, 5).Token = 2, 6
			*token(l, 6) = current(6, 5, 2)
		}, true},
		turn{"a Gen below", func(l *lists) { family(l, 5).Gen = 2 }, false},
		turn{"a Gen below, and its token", func(l *lists) { family(l, 5).Gen, family(l, 5).Token = 2, 6 }, false},
		turn{"a Gen above", func(l *lists) { family(l, 5).Gen = 4 }, false},
		turn{"the greatest Gen", func(l *lists) { family(l, 5).Gen = lastGen }, false},
		turn{"the greatest Gen of a family of one", func(l *lists) { family(l, 257).Gen, token(l, 258).Gen = lastGen, lastGen }, false},
		turn{"one above Gen", func(l *lists) { l.tokens = append(l.tokens, current(20, 5, 4)) }, false},
		turn{"one far above Gen", func(l *lists) { l.tokens = append(l.tokens, current(20, 5, lastGen)) }, false},
		turn{"one above Gen, and all to it", func(l *lists) {
			l.tokens = append(l.tokens, current(20, 5, 4))
			*token(l, 9) = spent(9, 5, 3, 20)
			family(l, 5).Gen, family(l, 5).Token = 4, 20
		}, true},
		turn{"the first one double", func(l *lists) { l.tokens = append(l.tokens, spent(20, 5, 1, 6)) }, false},
		turn{"the last one double", func(l *lists) { l.tokens = append(l.tokens, current(20, 5, 3)) }, false},
		turn{"one double instead of another", func(l *lists) { token(l, 8).Gen = 2 }, false},
		turn{"the last one double instead of another", func(l *lists) { *token(l, 6) = current(6, 5, 3) }, false},
		turn{"the first one double instead of another", func(l *lists) { token(l, 6).Gen, token(l, 6).Next = 1, 9 }, false},
		turn{"two that have changed places", func(l *lists) { token(l, 8).Gen, token(l, 6).Gen = 2, 1 }, false},
		turn{"two that have changed places, and lead so", func(l *lists) {
			*token(l, 8), *token(l, 6) = spent(8, 5, 2, 9), spent(6, 5, 1, 8)
		}, true},
		turn{"one that leads past the next", func(l *lists) { token(l, 8).Next = 9 }, false},
	)
}

// B2: which ones are spent, and what comes behind them.
func TestBelongSpent(t *testing.T) {
	wantTurns(t,
		turn{"a last one that is spent", func(l *lists) { *token(l, 9) = spent(9, 5, 3, 20) }, false},
		turn{"a last one that is spent for itself", func(l *lists) { *token(l, 9) = spent(9, 5, 3, 9) }, false},
		turn{"the only one spent", func(l *lists) { *token(l, 4) = spent(4, 3, 1, 4) }, false},
		turn{"a first one that is not spent", func(l *lists) { *token(l, 8) = current(8, 5, 1) }, false},
		turn{"one between that is not spent", func(l *lists) { *token(l, 6) = current(6, 5, 2) }, false},
		turn{"a Next that is itself", func(l *lists) { token(l, 8).Next = 8 }, false},
		turn{"a Next that is another's", func(l *lists) { token(l, 6).Next = 4 }, false},
		turn{"a Next that is nobody", func(l *lists) { token(l, 6).Next = 20 }, false},
		turn{"a Next that is the last ID", func(l *lists) { token(l, 6).Next = lastID }, false},
		turn{"a Next that leads back", func(l *lists) { token(l, 6).Next = 8 }, false},
		turn{"a Token that is an earlier one", func(l *lists) { family(l, 5).Token = 6 }, false},
		turn{"a Token that is another's", func(l *lists) { family(l, 5).Token = 4 }, false},
		turn{"a Token that is nobody", func(l *lists) { family(l, 3).Token = 20 }, false},
		turn{"a Token that is the family's ID", func(l *lists) { family(l, 3).Token = 3 }, false},
		turn{"an ended family's Token", func(l *lists) { family(l, 10).Token = 11 }, false},
		turn{"an ended family's last one spent", func(l *lists) { *token(l, 12) = spent(12, 10, 2, 20) }, false},
	)
}

// B2: codes and the families that came of them.
func TestBelongCodes(t *testing.T) {
	wantTurns(t,
		turn{"a spent code without its family", func(l *lists) { l.codes = append(l.codes, spentCode(20, 21)) }, false},
		turn{"a spent code whose family came of none", func(l *lists) { l.codes = append(l.codes, spentCode(20, 3)) }, false},
		turn{"a spent code whose family came of another", func(l *lists) { l.codes = append(l.codes, spentCode(20, 10)) }, false},
		turn{"a spent code ahead whose family came of another", func(l *lists) { l.codes = append(l.codes, spentCode(2, 10)) }, false},
		turn{"a family that came of no code that is there", func(l *lists) { family(l, 3).Code = 20 }, false},
		turn{"a family that came of a fresh one", func(l *lists) { family(l, 3).Code = 14 }, false},
		turn{"a family that came of another one's", func(l *lists) { family(l, 3).Code = 13 }, false},
		turn{"a later family that came of another one's", func(l *lists) { family(l, 257).Code = 13 }, false},
		turn{"the code gone", func(l *lists) { l.codes = l.codes[1:] }, false},
		turn{"the code fresh", func(l *lists) { l.codes[0] = freshCode(13) }, false},
		turn{"the code another one's", func(l *lists) { code(l, 13).Family = 3 }, false},
		turn{"the code another one's, and the other way round", func(l *lists) { code(l, 13).Family, family(l, 3).Code, family(l, 10).Code = 3, 13, 0 }, true},
		turn{"the family's Code gone", func(l *lists) { family(l, 10).Code = 0 }, false},
		turn{"both gone", func(l *lists) { l.codes = l.codes[1:]; family(l, 10).Code = 0 }, true},
		turn{"a second pair", func(l *lists) { l.codes = append(l.codes, spentCode(20, 3)); family(l, 3).Code = 20 }, true},
		turn{"a second pair, crosswise", func(l *lists) {
			l.codes = append(l.codes, spentCode(20, 3))
			family(l, 3).Code, family(l, 10).Code = 13, 20
		}, false},
		turn{"a second pair, crosswise both ways", func(l *lists) {
			l.codes = append(l.codes, spentCode(20, 10))
			code(l, 13).Family = 3
			family(l, 3).Code, family(l, 10).Code = 13, 20
		}, true},
		turn{"the family gone", func(l *lists) {
			l.families = append(l.families[:2:2], l.families[3])
			drop(11, 12)(l)
		}, false},
		turn{"the family and the code gone", func(l *lists) {
			l.families = append(l.families[:2:2], l.families[3])
			l.codes = l.codes[1:]
			drop(11, 12)(l)
		}, true},
	)
}

// chained has events from one number to another, and a chain.
func chained(from, to int, chains ...api.Chain) func(l *lists) {
	return func(l *lists) {
		l.events, l.chains = nil, chains
		for n := from; n <= to; n++ {
			l.events = append(l.events, someEvent(n))
		}
	}
}

// B2: events and the chain.
func TestBelongEvents(t *testing.T) {
	wantTurns(t,
		turn{"neither", chained(1, 0), true},
		turn{"events without a chain", chained(1, 1), false},
		turn{"the first chain without events", chained(1, 0, someChain(0, 1)), true},
		turn{"the first chain with one", chained(1, 1, someChain(0, 1)), false},
		turn{"a chain without events", chained(1, 0, someChain(0, 2)), false},
		turn{"a chain with its one", chained(1, 1, someChain(0, 2)), true},
		turn{"one too few at the begin", chained(4, 5, someChain(2, 6)), false},
		turn{"one too few at the end", chained(3, 4, someChain(2, 6)), false},
		turn{"one too many at the begin", chained(2, 5, someChain(2, 6)), false},
		turn{"one too many at the end", chained(3, 6, someChain(2, 6)), false},
		turn{"one earlier instead of the last one", chained(2, 4, someChain(2, 6)), false},
		turn{"one later instead of the first one", chained(4, 6, someChain(2, 6)), false},
		turn{"one missing between", func(l *lists) { l.events = append(l.events[:1:1], l.events[2]) }, false},
		turn{"one missing between, and one behind", func(l *lists) { l.events = append(l.events[:1:1], l.events[2], someEvent(6)) }, false},
		turn{"as many, far away", chained(13, 15, someChain(2, 6)), false},
		turn{"a chain behind its events", chained(3, 5, someChain(9, 10)), false},
		turn{"32 events", chained(1, 32, someChain(0, 33)), true},
		turn{"33 events", chained(1, 33, someChain(0, 33)), false},
		turn{"31 events", chained(1, 31, someChain(0, 33)), false},
		turn{"the last events", chained(lastID-31, lastID, someChain(lastID-32, lastID+1)), true},
		turn{"the last events without the last one", chained(lastID-31, lastID-1, someChain(lastID-32, lastID+1)), false},
		turn{"behind the last event", chained(1, 0, someChain(lastID, lastID+1)), true},
		turn{"behind the last event, with it", chained(lastID, lastID, someChain(lastID, lastID+1)), false},
		turn{"the first event at the end", chained(1, 1, someChain(lastID, lastID+1)), false},
	)
}

// B2: IDs below the next one.
func TestBelongIDs(t *testing.T) {
	next := func(n int) func(l *lists) { return func(l *lists) { l.next = n } }
	wantTurns(t,
		turn{"the next behind all", next(259), true},
		turn{"a token at the next", next(258), false},
		turn{"a family at the next", next(257), false},
		turn{"the least next", next(1), false},
		turn{"the last next", next(lastID + 1), true},
		turn{"a code alone at the next", func(l *lists) { l.codes = append(l.codes, freshCode(300)) }, false},
		turn{"a code alone ahead of it", func(l *lists) { l.codes = append(l.codes, freshCode(299)) }, true},
		turn{"a code far behind it", func(l *lists) { l.codes = append(l.codes, freshCode(lastID)) }, false},
		turn{"a family alone at the next", func(l *lists) {
			l.families = append(l.families, someFamily(300, 20, 0, "ann"))
			l.tokens = append(l.tokens, current(20, 300, 1))
		}, false},
		turn{"a token alone at the next", func(l *lists) {
			l.families = append(l.families, someFamily(20, 300, 0, "ann"))
			l.tokens = append(l.tokens, current(300, 20, 1))
		}, false},
		turn{"a token ahead of it", func(l *lists) {
			l.families = append(l.families, someFamily(20, 299, 0, "ann"))
			l.tokens = append(l.tokens, current(299, 20, 1))
		}, true},
		turn{"the last ID", func(l *lists) { l.next = lastID + 1; l.codes = append(l.codes, freshCode(lastID)) }, true},
		turn{"the last ID at the next", func(l *lists) { l.next = lastID; l.codes = append(l.codes, freshCode(lastID)) }, false},
		turn{"keys and events know of no next ID", func(l *lists) { l.keys[0].Number = lastKey; l.events[0].Family = lastID }, true},
	)
}

// B2: times that are not ahead of the note's.
func TestBelongTimes(t *testing.T) {
	for by, belongs := range map[int]bool{0: true, 1: false, lastTime - homeTime: false} {
		at := homeTime + by
		wantTurns(t,
			turn{"Used", func(l *lists) { family(l, 3).Used = at }, belongs},
			turn{"Created", func(l *lists) { family(l, 3).Created, family(l, 3).Used = at, at }, belongs},
			turn{"Ended", func(l *lists) { family(l, 10).Ended = at }, belongs},
			turn{"Minted", func(l *lists) { token(l, 4).Minted = at }, belongs},
			turn{"Minted of a spent one", func(l *lists) { token(l, 6).Minted, token(l, 6).At = at, at }, belongs},
			turn{"At", func(l *lists) { token(l, 6).At = at }, belongs},
			turn{"From", func(l *lists) { l.keys[1].From = at; l.keys[1].Until = lastTime }, belongs},
			turn{"Time", func(l *lists) { l.events[2].Time = at }, belongs},
			turn{"Until of a key", func(l *lists) { l.keys[1].Until = at }, true},
			turn{"Until of a code", func(l *lists) { l.codes[1].Until = at }, true},
			turn{"Until of a client", func(l *lists) { l.clients[0].Old, l.clients[0].Until = digest(7), at }, true},
			turn{"spans", func(l *lists) {
				family(l, 3).Idle, family(l, 3).Absolute, family(l, 3).Grace = at, at, at
			}, true},
		)
	}
	l := lists{next: 9, families: []api.Family{someFamily(3, 4, 0, "ann")}, tokens: []api.Token{current(4, 3, 1)}}
	l.tokens[0].Minted = 0
	wantBelongs(t, "the least time", l, 0, true)
	l.tokens[0].Minted = 1
	wantBelongs(t, "behind the least time", l, 0, false)
	l.families[0].Used, l.tokens[0].Minted = lastTime, lastTime
	wantBelongs(t, "the last time", l, lastTime, true)
	wantBelongs(t, "ahead of the last time", l, lastTime-1, false)
}

// B2: what is not looked at: whether a family's client is there, digests, and whom events tell of.
func TestBelongNothingElse(t *testing.T) {
	wantTurns(t,
		turn{"no clients", func(l *lists) { l.clients = nil }, true},
		turn{"other digests", func(l *lists) {
			l.tokens[0].Hash, l.codes[0].Hash, l.chains[0].NextHash = digest(70), digest(70), digest(70)
		}, true},
		turn{"one digest for all", func(l *lists) {
			for n := range l.tokens {
				l.tokens[n].Hash = digest(1)
			}
		}, true},
		turn{"events of no family", func(l *lists) { l.events[0].Family, l.events[1].Family = 0, 77 }, true},
		turn{"events that do not rise by time", func(l *lists) { l.events[0].Time, l.events[1].Time = 500, 2 }, true},
		turn{"a code of another client than its family", func(l *lists) { l.codes[0].Client, l.codes[0].Subject = "eve", "eve" }, true},
	)
}
