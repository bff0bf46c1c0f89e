package table_test

import (
	"fmt"
	"testing"

	"latchkey/api"
)

// B5, B6: every kind asked ahead of all and behind Put, Commit, Abort and Open, again and again. (Behind each call everything is asked.)
func TestEveryKindAtEveryTurn(t *testing.T) {
	full := home()
	var puts []call
	for _, c := range full.clients {
		puts = append(puts, putClient(c))
	}
	for _, f := range full.families {
		puts = append(puts, putFamily(f))
	}
	for _, k := range full.tokens {
		puts = append(puts, putToken(k))
	}
	for _, c := range full.codes {
		puts = append(puts, putCode(c))
	}
	for _, k := range full.keys {
		puts = append(puts, putKey(k))
	}
	for _, e := range full.events {
		puts = append(puts, putEvent(e))
	}
	puts = append(puts, putChain(full.chains[0]))
	b := bothOf(t, 64, lists{next: 300}, homeTime)
	b.calls(puts...)
	b.calls(abort())
	b.calls(puts...)
	b.calls(commit(), abort())
	b.reopen()
	for _, c := range puts {
		b.calls(c, commit())
	}
	b.reopen()
	b.calls(removeFamily(5), removeCode(14), removeKey(2), abort())
	b.calls(removeFamily(5), removeCode(14), removeKey(2), commit())
	b.reopen()
	b.calls(removeFamily(3), removeFamily(257), removeFamily(10), removeCode(13), removeCode(256), removeKey(1), removeKey(256), removeEvent(3), removeEvent(4), removeEvent(5), putChain(someChain(5, 6)), commit())
	b.reopen()
}

// B5: what is no name, what is no ID, ahead of what is not there.
func TestGet(t *testing.T) {
	_, x := atHome(t)
	for _, name := range []string{"", "APP", "app ", "a\x00", "é", many(17, "a"), many(1000, "a")} {
		wantCall(t, x, getClient(name), nil, api.ErrArg)
	}
	for _, name := range []string{"a", "appl", "apq", "-", many(16, "a"), "ann", "bob"} {
		wantCall(t, x, getClient(name), nil, api.ErrTableNone)
	}
	wantCall(t, x, getClient("app"), someClient("app"), api.OK)
	for _, get := range []func(int) call{getFamily, getToken, getCode} {
		for _, n := range []int{least, -1, 0, lastID + 1, most} {
			wantCall(t, x, get(n), nil, api.ErrArg)
		}
		for _, n := range []int{1, 2, 7, 299, lastID - 1, lastID} {
			wantCall(t, x, get(n), nil, api.ErrTableNone)
		}
	}
	wantCall(t, x, getFamily(257), home().families[3], api.OK)
	wantCall(t, x, getToken(258), home().tokens[6], api.OK)
	wantCall(t, x, getCode(256), home().codes[2], api.OK)
	wantCall(t, x, getFamily(4), nil, api.ErrTableNone)  // a token's
	wantCall(t, x, getToken(3), nil, api.ErrTableNone)   // a family's
	wantCall(t, x, getToken(13), nil, api.ErrTableNone)  // a code's
	wantCall(t, x, getFamily(13), nil, api.ErrTableNone) // a code's
}

// B5: the least and the last of all.
func TestGetAtTheEdges(t *testing.T) {
	b := bothOf(t, 64, lists{next: 1}, 0)
	far := someFamily(lastID, lastID, lastTime, many(16, "z"))
	far.Client, far.Gen, far.Code, far.Idle, far.Absolute, far.Grace = many(16, "."), lastGen, lastID, lastTime, lastTime, lastTime
	b.calls(putClient(publicClient("-")), putClient(someClient(many(16, "z"))), putFamily(someFamily(1, 1, 0, "-")), putFamily(far))
	b.calls(putToken(current(1, 1, 1)), putToken(spent(lastID, lastID, lastGen, lastID)), putToken(current(lastID-1, lastID, lastGen-1)), putToken(current(2, lastID-1, lastGen)))
	b.calls(putCode(freshCode(1)), putCode(spentCode(lastID, lastID)), putKey(someKey(1)), putKey(someKey(lastKey)), putEvent(someEvent(1)), putEvent(someEvent(lastID)), putChain(someChain(lastID, lastID+1)))
	b.calls(commit(), abort())
	wantCall(t, b.x, getFamily(lastID), far, api.OK)
	wantCall(t, b.x, tokensOf(lastID), []api.Token{current(lastID-1, lastID, lastGen-1), spent(lastID, lastID, lastGen, lastID)}, api.OK)
	wantCall(t, b.x, ending(lastTime, most), []int{1}, api.OK)
	wantCall(t, b.x, ending(lastTime+1, most), []int{1, lastID}, api.OK)
	wantCall(t, b.x, ending(most, most), []int{1, lastID}, api.OK)
	b.calls(removeFamily(lastID), removeCode(lastID), removeKey(lastKey), removeEvent(lastID))
	wantCall(t, b.x, getToken(lastID), nil, api.ErrTableNone)
	wantCall(t, b.x, getToken(2), current(2, lastID-1, lastGen), api.OK)
}

// B6: by rising names, IDs, numbers, generations, in whatever order they came, whether they stand or were begun.
func TestOrder(t *testing.T) {
	for _, when := range []int{0, 1, 2, 100} { // behind so many of each kind there is a commit
		_, x := began(t, 128)
		step := func(n int, errno api.Errno) {
			wantErrno(t, "Put", errno, api.OK)
			if n == when {
				wantErrno(t, "Commit", x.Commit(), api.OK)
			}
		}
		for n, name := range []string{"b", "a.b", "a", "ab", "a-b", "9", "z", "a9", "_"} {
			step(n, x.PutClient(publicClient(name)))
		}
		for n, id := range []int{256, 1, 65536, 255, lastID, 2, 257, 1 << 32} {
			step(n, x.PutCode(freshCode(id)))
			step(n, x.PutEvent(someEvent(id)))
			step(n, x.PutFamily(someFamily(id, 1, 0, "ann")))
		}
		for n, number := range []int{256, 1, 65536, 255, lastKey, 2} {
			step(n, x.PutKey(someKey(number)))
			step(n, x.PutToken(current(1000-n, 7, number)))
		}
		names, numbers, gens := []string{}, []int{}, []int{}
		clients, _ := x.Clients()
		for _, c := range clients {
			names = append(names, c.Name)
		}
		codes, _ := x.Codes()
		for _, c := range codes {
			numbers = append(numbers, c.ID)
		}
		events, _ := x.Events()
		for n, e := range events {
			if e.Number != numbers[n] {
				t.Errorf("events: %d at %d", e.Number, n)
			}
		}
		keys, _ := x.Keys()
		for _, k := range keys {
			gens = append(gens, k.Number)
		}
		tokens, _ := x.Tokens(7)
		for n, k := range tokens {
			if k.Gen != gens[n] {
				t.Errorf("tokens: %d at %d", k.Gen, n)
			}
		}
		if got, want := fmt.Sprint(names, numbers, gens), "[9 _ a a-b a.b a9 ab b z] [1 2 255 256 257 65536 4294967296 4611686018427387904] [1 2 255 256 65536 1073741824]"; got != want {
			t.Errorf("behind %d: %s, want %s", when, got, want)
		}
		wantCall(t, x, ofSubject("ann"), numbers, api.OK)
	}
}

// B6: whatever their states, and of nobody else whose name begins so.
func TestSubject(t *testing.T) {
	_, x := began(t, 128)
	for state := api.Active; state <= api.Expired; state++ {
		f := endedFamily(10-state, 1, 60, "ann")
		if f.State = state; state == api.Active {
			f.Ended = 0
		}
		wantErrno(t, "PutFamily", x.PutFamily(f), api.OK)
	}
	for n, name := range []string{"an", "anna", "ann-", "ann.", "ann0", "a", "bann", many(16, "n"), many(15, "n")} {
		wantErrno(t, "PutFamily", x.PutFamily(someFamily(20+n, 1, 0, name)), api.OK)
	}
	for _, committed := range []bool{false, true} {
		if committed {
			wantErrno(t, "Commit", x.Commit(), api.OK)
		}
		wantCall(t, x, ofSubject("ann"), []int{6, 7, 8, 9}, api.OK)
		wantCall(t, x, ofSubject("an"), []int{20}, api.OK)
		wantCall(t, x, ofSubject("ann-"), []int{22}, api.OK)
		wantCall(t, x, ofSubject(many(16, "n")), []int{27}, api.OK)
		wantCall(t, x, ofSubject(many(15, "n")), []int{28}, api.OK)
		wantCall(t, x, ofSubject(many(14, "n")), []int{}, api.OK)
		wantCall(t, x, ofSubject("zed"), []int{}, api.OK)
	}
	for _, name := range []string{"", "ANN", "ann\x00", "a n", many(17, "n"), "\xff"} {
		wantCall(t, x, ofSubject(name), nil, api.ErrArg)
	}
}

// B6: below, at and above an end; several of one end; as many as are asked for.
func TestEnding(t *testing.T) {
	for _, committed := range []int{0, 3, 6} {
		_, x := began(t, 128)
		for n, f := range []api.Family{someFamily(7, 1, 100, "ann"), endedFamily(3, 1, 150, "ann"), someFamily(5, 1, 70, "bob"), endedFamily(256, 1, 150, "ann"), someFamily(9, 1, lastTime, "ann"), endedFamily(1, 1, 0, "eve")} {
			wantErrno(t, "PutFamily", x.PutFamily(f), api.OK)
			if n+1 == committed {
				wantErrno(t, "Commit", x.Commit(), api.OK)
			}
		}
		for _, c := range []struct {
			before, most int
			want         []int
		}{
			{least, most, nil}, {-1, most, nil}, {0, most, nil}, {1, most, []int{1}}, {119, 9, []int{1}}, {120, 9, []int{1}}, {121, 9, []int{1, 5}}, {150, 9, []int{1, 5}},
			{151, 9, []int{1, 5, 3, 7, 256}}, {151, 5, []int{1, 5, 3, 7, 256}}, {151, 4, []int{1, 5, 3, 7}}, {151, 3, []int{1, 5, 3}}, {151, 1, []int{1}}, {151, 0, nil}, {151, -1, nil}, {151, least, nil},
			{lastTime, most, []int{1, 5, 3, 7, 256}}, {lastTime + 1, most, []int{1, 5, 3, 7, 256, 9}}, {most, most, []int{1, 5, 3, 7, 256, 9}}, {most, 6, []int{1, 5, 3, 7, 256, 9}}, {most, 7, []int{1, 5, 3, 7, 256, 9}}, {1 << 48, 2, []int{1, 5}},
		} {
			wantCall(t, x, ending(c.before, c.most), append([]int{}, c.want...), api.OK)
		}
	}
}

// B6: the first ones, where those that stand are gone, and others were begun ahead of, between and behind them.
func TestEndingOverWhatStands(t *testing.T) {
	b := bothOf(t, 128, lists{next: 1}, 0)
	for n := range 16 {
		b.call(putFamily(endedFamily(1+n, 1, 100+10*n, "ann")))
	}
	b.call(commit())
	for n := range 8 {
		b.call(removeFamily(1 + 2*n))
		b.call(putFamily(endedFamily(2+2*n, 1, 105+20*((n*3)%8), "ann")))
		b.call(putFamily(endedFamily(40+n, 1, 95+25*n, "ann")))
		for most := range 20 {
			for _, before := range []int{95, 100, 101, 150, 180, 1000} {
				b.call(ending(before, most))
			}
		}
	}
}

// B6: the chain of a table that has none.
func TestFirstChain(t *testing.T) {
	_, x := began(t, 16)
	first := api.Chain{Base: 0, Next: 1, BaseHash: many(32, "\x00"), NextHash: many(32, "\x00")}
	wantCall(t, x, theChainCall(), first, api.OK)
	wantErrno(t, "PutChain", x.PutChain(someChain(7, 9)), api.OK)
	wantCall(t, x, theChainCall(), someChain(7, 9), api.OK)
	x.Abort()
	wantCall(t, x, theChainCall(), first, api.OK)
	wantErrno(t, "PutChain", x.PutChain(first), api.OK)
	wantErrno(t, "Commit", x.Commit(), api.OK)
	wantCall(t, x, theChainCall(), first, api.OK)
	if x.Pager().Root() == 0 {
		t.Error("a chain that was put does not stand")
	}
}
