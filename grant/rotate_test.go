package grant_test

import (
	"encoding/base64"
	"fmt"
	"slices"
	"strings"
	"testing"

	"latchkey/api"
)

// turned is a table with a family of app's, for ann, issued at 100 and rotated at 110; its two texts.
func turned(t *testing.T) (*both, string, string) {
	t.Helper()
	b := newBoth(t)
	first := b.gives(issue("app", "ann", nil, 100, secret(1)))
	second := b.gives(rotate("app", first, nil, 110, secret(2)))
	return b, first, second
}

// strangers are texts that are not found on a table that has texts: not a token, of the other kind, of no such ID, of another secret, of another check.
func strangers(b *both) []string {
	l := []string{"", "x", "lkr_", many(52, "x"), "lkr_" + many(48, "A"), "lkr_" + many(48, "_"), "lkc_" + many(48, "A"), many(10000, "lkr_"), "\x00", "\xff\xfe"}
	for _, line := range b.b.lines {
		for _, k := range line.coins {
			text := k.text()
			l = append(l, textOf("lkc_", k.id, k.secret), textOf("lkr_", k.id, secret(9999)), textOf("lkr_", k.id, k.secret[1:]+"x"), textOf("lkr_", line.id, k.secret),
				textOf("lkr_", b.b.next, k.secret), textOf("lkr_", lastID, k.secret), text[:51], text+"A", text+"=", " "+text, text+"\n", text[4:], strings.ToUpper(text), text+text)
			wrong := []byte(text)
			wrong[51] = map[bool]byte{true: 'B', false: 'A'}[wrong[51] == 'A']
			l = append(l, string(wrong))
		}
	}
	for _, id := range []int{0, 1 << 62, 1<<62 + 1, -1} {
		body := make([]byte, 36)
		for i := range 8 {
			body[i] = byte(id >> (56 - 8*i))
		}
		l = append(l, "lkr_"+base64.RawURLEncoding.EncodeToString(body))
	}
	return l
}

// G4: the current one gives the next one, over and over; each once spent.
func TestRotateFresh(t *testing.T) {
	b := newBoth(t)
	text := b.gives(issue("web", "ann", names("read"), 100, secret(0)))
	for n := 1; n <= 20; n++ {
		a := b.want(rotate("web", text, nil, 100+5*n, secret(n)), api.OK).issued
		if !same(a, api.Issued{Token: textOf("lkr_", 2+n, secret(n)), Family: 1, Gen: 1 + n, Scope: names("read"), Subject: "ann", Life: 30}) {
			t.Fatalf("the %d-th: %#v", n, a)
		}
		b.event(api.EventRotate, 1, 100+5*n, "web")
		text = a.Token
	}
	f, errno := b.x.Family(1)
	if errno != api.OK || !same(f, api.Family{
		ID: 1, Client: "web", Subject: "ann", Scope: names("read"), Created: 100, Used: 200, Idle: 50, Absolute: 120, Grace: 10, Gen: 21, Token: 22, State: api.Active,
	}) {
		t.Fatalf("the family: %#v, %d", f, errno)
	}
	k, errno := b.x.Token(21)
	if errno != api.OK || k != (api.Token{
		ID: 21, Family: 1, Gen: 20, Hash: digestOf(textOf("lkr_", 21, secret(19))), Minted: 195, Spent: true, At: 200, Next: 22, Secret: secret(20),
	}) {
		t.Fatalf("the token: %#v, %d", k, errno)
	}
	b.reopen()
}

// G4: a spent one within its grace gives the very same next one, whatever secret comes with it, and no act is done; one second ahead of its end, at it, behind it.
func TestRotateReplay(t *testing.T) {
	for _, now := range []int{least, 0, 109, 110, 111, 118, 119} {
		b, first, second := turned(t)
		a := b.want(rotate("app", first, nil, now, secret(3)), api.OK).issued
		if a.Token != second || a.Gen != 2 || a.Family != 1 || a.Life != 20 || a.Subject != "ann" {
			t.Fatalf("at %d: %#v", now, a)
		}
		b.want(rotate("app", second, nil, now, secret(4)), api.OK)
		b.want(rotate("app", first, nil, now, secret(5)), api.OK)
		b.want(rotate("app", second, nil, now, secret(5)), api.OK)
	}
	for _, now := range []int{120, 121, 159} {
		b, first, second := turned(t)
		b.want(rotate("app", first, nil, now, secret(3)), api.ErrGrantToken)
		b.family(1, api.Reused, now)
		b.event(api.EventReuse, 1, now, "app")
		for _, text := range []string{first, second} {
			b.want(rotate("app", text, nil, least, secret(4)), api.ErrGrantToken)
			b.want(introspect(text, least), api.OK)
		}
		b.family(1, api.Reused, now)
		b.reopen()
		b.want(rotate("app", second, nil, least, secret(4)), api.ErrGrantToken)
	}
}

// G4: each of a row of spent ones, by its own time.
func TestRotateReplayInARow(t *testing.T) {
	b := newBoth(t)
	texts := []string{b.gives(issue("app", "ann", nil, 100, secret(0)))}
	for n := 1; n <= 6; n++ {
		texts = append(texts, b.gives(rotate("app", texts[n-1], nil, 100+n, secret(n))))
	}
	for n := range 6 { // at 110 the first one is in its grace still
		if got := b.gives(rotate("app", texts[n], nil, 110, secret(9))); got != texts[n+1] {
			t.Fatalf("the %d-th gives %s", n, got)
		}
	}
	for n := 1; n < 6; n++ {
		b.want(rotate("app", texts[n], nil, 111, secret(9)), api.OK)
	}
	b.want(rotate("app", texts[0], nil, 110, secret(9)), api.ErrGrantToken)
	b.family(1, api.Reused, 111)
}

// G4: with a Grace of 0 a spent one ends its family at once; with the greatest one it gives the same as long as the family is alive.
func TestRotateGraces(t *testing.T) {
	none, long := someClient("none"), someClient("long")
	none.Grace, long.Grace, long.Absolute, long.Idle = 0, lastTime, lastTime, lastTime
	b := founded(t, 256, 1, 0, none, long)
	first := b.gives(issue("none", "ann", nil, 100, secret(1)))
	b.gives(rotate("none", first, nil, 100, secret(2)))
	b.want(rotate("none", first, nil, 100, secret(3)), api.ErrGrantToken)
	b.family(1, api.Reused, 100)
	other := b.gives(issue("long", "ann", nil, 100, secret(1)))
	second := b.gives(rotate("long", other, nil, 100, secret(2)))
	for _, now := range []int{101, 100000, lastTime - 1} {
		if again := b.gives(rotate("long", other, nil, now, secret(3))); again != second {
			t.Fatalf("another one: %s", again)
		}
	}
	b.want(rotate("long", other, nil, lastTime, secret(3)), api.ErrGrantToken)
	b.family(4, api.Expired, lastTime)
}

// G4: at its end a family is Expired, whichever of its tokens is shown; a second ahead of that it is not.
func TestRotateExpired(t *testing.T) {
	for which := range 2 {
		for _, now := range []int{160, 161, 1000, lastTime, most} {
			b, first, second := turned(t)
			text := []string{first, second}[which]
			b.want(rotate("app", text, names("admin"), now, secret(3)), api.ErrGrantToken)
			b.family(1, api.Expired, min(now, lastTime))
			b.event(api.EventExpire, 1, min(now, lastTime), "app")
			b.want(rotate("app", text, nil, now, secret(3)), api.ErrGrantToken)
			b.want(introspect(second, now), api.OK)
			b.reopen()
			b.want(rotate("app", second, nil, 0, secret(3)), api.ErrGrantToken)
		}
	}
	b, _, second := turned(t)
	b.want(rotate("app", second, nil, 159, secret(3)), api.OK)
	b, first, _ := turned(t)
	b.want(rotate("app", first, nil, 159, secret(3)), api.ErrGrantToken)
	b.family(1, api.Reused, 159)
}

// G4, P5: no rotation moves Created: at Created and Absolute it is over.
func TestRotateAbsolute(t *testing.T) {
	b := newBoth(t)
	text := b.gives(issue("app", "ann", nil, 100, secret(0)))
	for n := 1; n <= 4; n++ {
		text = b.gives(rotate("app", text, nil, 100+29*n, secret(n)))
	}
	twin := b.twin(t)
	twin.want(rotate("app", text, nil, 219, secret(9)), api.OK)
	b.want(rotate("app", text, nil, 220, secret(9)), api.ErrGrantToken)
	b.family(1, api.Expired, 220)
}

// G4: of a family that has ended nothing is changed, in each state.
func TestRotateEnded(t *testing.T) {
	for state := api.Revoked; state <= api.Expired; state++ {
		b, first, second := turned(t)
		switch state {
		case api.Revoked:
			b.want(revoke("app", second, 130), api.OK)
		case api.Reused:
			b.want(rotate("app", first, nil, 130, secret(3)), api.ErrGrantToken)
		case api.Expired:
			b.want(rotate("app", second, nil, 160, secret(3)), api.ErrGrantToken)
		}
		ended := b.b.now
		for _, now := range []int{least, ended, ended + 1, 500, most} {
			for _, text := range []string{first, second} {
				b.want(rotate("app", text, nil, now, secret(4)), api.ErrGrantToken)
				b.want(rotate("app", text, names("admin"), now, secret(4)), api.ErrGrantToken)
			}
		}
		b.family(1, state, ended)
	}
}

// G4: a text that is not found, in each way; another client's; no act, and the family stays.
func TestRotateNotFound(t *testing.T) {
	b, first, second := turned(t)
	for _, text := range strangers(b) {
		for _, scope := range [][]string{nil, names("admin")} {
			if a := b.quick(rotate("app", text, scope, 115, secret(3))); a.errno != api.ErrGrantToken {
				t.Fatalf("%q: %d", text, a.errno)
			}
		}
	}
	for _, now := range []int{115, 120, 130, 160, 300} {
		for _, text := range []string{first, second} {
			b.want(rotate("web", text, nil, now, secret(3)), api.ErrGrantToken)
			b.want(rotate("off", text, names("admin"), now, secret(3)), api.ErrGrantToken)
		}
		b.family(1, api.Active, 0)
	}
}

// G4: a token is its text's, by its digest: one that stands under another digest is not found.
func TestRotateOtherDigest(t *testing.T) {
	b, _, second := turned(t)
	k, errno := b.x.Token(3)
	wantErrno(t, "Token", errno, api.OK)
	k.Hash = digestOf("another text")
	wantErrno(t, "PutToken", b.x.PutToken(k), api.OK)
	wantErrno(t, "Commit", b.x.Commit(), api.OK)
	b.wantRefused(rotate("app", second, nil, 115, secret(3)), api.ErrGrantToken)
	b.wantRefused(revoke("app", second, 115), api.OK)
	b.wantRefused(introspect(second, 115), api.OK)
}

// G4: whether the client is switched off is not asked.
func TestRotateOff(t *testing.T) {
	b, first, second := turned(t)
	b.want(turn("app", true, 111), api.OK)
	b.want(issue("app", "ann", nil, 111, secret(9)), api.ErrClientOff)
	b.want(rotate("app", first, nil, 112, secret(3)), api.OK)
	third := b.gives(rotate("app", second, nil, 113, secret(3)))
	b.want(introspect(third, 114), api.OK)
	b.want(revoke("app", third, 115), api.OK)
	b.family(1, api.Revoked, 115)
}

// G4: scopes asked for that are the family's, within it, empty, and not within it; each is told as it was asked for, and the family's stays.
func TestRotateScopes(t *testing.T) {
	for _, replay := range []bool{false, true} {
		for _, c := range []struct {
			scope []string
			want  api.Errno
		}{
			{nil, api.OK}, {names(), api.OK}, {names("read"), api.OK}, {names("write"), api.OK}, {names("read", "write"), api.OK},
			{names("admin"), api.ErrGrantScope}, {names("admin", "read", "write"), api.ErrGrantScope}, {names("read", "x"), api.ErrGrantScope}, {eight(), api.ErrGrantScope},
		} {
			b := newBoth(t)
			text := b.gives(issue("web", "ann", names("read", "write"), 100, secret(1)))
			if replay {
				b.want(rotate("web", text, names("write"), 105, secret(2)), api.OK)
			}
			a := b.want(rotate("web", text, c.scope, 110, secret(3)), c.want).issued
			want := c.scope
			if len(want) == 0 {
				want = names("read", "write")
			}
			if c.want == api.OK && !slices.Equal(a.Scope, want) {
				t.Fatalf("%q: the scope is %q", c.scope, a.Scope)
			}
			b.want(rotate("web", text, nil, 111, secret(4)), api.OK)
		}
	}
	b := newBoth(t)
	bare := someClient("bare")
	bare.Scope = nil
	b.b.clients["bare"] = bare
	wantErrno(t, "PutClient", b.x.PutClient(bare), api.OK)
	wantErrno(t, "Commit", b.x.Commit(), api.OK)
	text := b.gives(issue("bare", "ann", nil, 100, secret(1)))
	b.want(rotate("bare", text, names("read"), 100, secret(2)), api.ErrGrantScope)
	if a := b.want(rotate("bare", text, nil, 100, secret(2)), api.OK).issued; len(a.Scope) != 0 {
		t.Fatalf("the scope is %q", a.Scope)
	}
}

// G4: a scope that is refused ends no family, and spends no token; one too late ends it, whatever is asked for.
func TestRotateScopeAndVerdict(t *testing.T) {
	b, first, _ := turned(t)
	b.want(rotate("app", first, names("admin"), 119, secret(3)), api.ErrGrantScope)
	b.family(1, api.Active, 0)
	b.want(rotate("app", first, names("admin"), 120, secret(3)), api.ErrGrantToken)
	b.family(1, api.Reused, 120)
}

// G4: a family keeps what its client was when it was begun; Life alone is the client's as it is.
func TestRotateClientChanged(t *testing.T) {
	b, _, second := turned(t)
	c := someClient("app")
	c.Scope, c.Idle, c.Absolute, c.Grace, c.Life = names("other"), 1, 1, 0, 77
	b.b.clients["app"] = c
	wantErrno(t, "PutClient", b.x.PutClient(c), api.OK)
	wantErrno(t, "Commit", b.x.Commit(), api.OK)
	b.b.noted = b.b.now
	a := b.want(rotate("app", second, names("write"), 159, secret(3)), api.OK).issued
	if a.Life != 77 || a.Gen != 3 {
		t.Fatalf("%#v", a)
	}
	if again := b.want(rotate("app", second, nil, 168, secret(4)), api.OK).issued; again.Token != a.Token || again.Life != 77 {
		t.Fatalf("%#v", again)
	}
	b.want(rotate("app", a.Token, names("other"), 168, secret(4)), api.ErrGrantScope)
}

// G4: of each thing that may not be, alone and with others: ErrArg; then a client that is not there; then a text that is not found.
func TestRotateRefused(t *testing.T) {
	b, first, second := turned(t)
	for _, text := range []string{first, second, "x"} {
		for _, name := range wrongNames() {
			b.want(rotate(name, text, nil, 115, secret(3)), api.ErrArg)
		}
		for _, scope := range wrongScopes() {
			b.want(rotate("app", text, scope, 115, secret(3)), api.ErrArg)
			b.want(rotate("gone", text, scope, 115, secret(3)), api.ErrArg)
		}
		for _, n := range []int{0, 1, 23, 25, 48, 1000} {
			b.want(rotate("app", text, nil, 115, many(n, "s")), api.ErrArg)
			b.want(rotate("gone", text, names("admin"), 115, many(n, "s")), api.ErrArg)
		}
		for _, scope := range [][]string{nil, names("admin")} {
			b.want(rotate("gone", text, scope, 115, secret(3)), api.ErrClientNone)
		}
	}
	b.want(rotate("App", first, names("b", "a"), 115, ""), api.ErrArg)
	b.family(1, api.Active, 0)
	for n, s := range []string{many(24, "\x00"), many(24, "\xff"), many(12, "é"), secret(1)} {
		second = b.gives(rotate("app", second, nil, 116+n, s))
	}
}

// G4: a dead disk is told behind what hangs on the arguments alone, ahead of all else; also of a text that needs no look.
func TestRotateDead(t *testing.T) {
	b, first, second := turned(t)
	strange := strangers(b)
	kill(t, b.d)
	for _, text := range append(strange, first, second) {
		for _, client := range []string{"app", "web", "gone"} {
			b.wantRefused(rotate(client, text, names("admin"), 300, secret(3)), api.ErrDead)
			b.wantRefused(revoke(client, text, 300), api.ErrDead)
		}
		b.wantRefused(introspect(text, 300), api.ErrDead)
	}
	for _, subject := range []string{"ann", "nobody"} {
		b.wantRefused(revokeAll(subject, 300), api.ErrDead)
	}
	b.wantRefused(rotate("App", first, nil, 300, secret(3)), api.ErrArg)
	b.wantRefused(rotate("app", first, names(""), 300, secret(3)), api.ErrArg)
	b.wantRefused(rotate("app", first, nil, 300, ""), api.ErrArg)
	b.wantRefused(revoke("App", first, 300), api.ErrArg)
	b.wantRefused(revokeAll("Ann", 301), api.ErrArg)
	if b.x.Now() != 301 {
		t.Fatalf("the time is %d", b.x.Now())
	}
}

// lastGeneration is a table whose family 5 is of the generation n, its token 6, and the text of that. (No such family belongs to its tokens, but nobody looks.)
func lastGeneration(t *testing.T, n int) (*both, string) {
	t.Helper()
	b := founded(t, 64, 100, 0, three()...)
	text := textOf("lkr_", 6, secret(1))
	b.x.See(100)
	wantErrno(t, "PutFamily", b.x.PutFamily(api.Family{
		ID: 5, Client: "app", Subject: "ann", Scope: names("read"), Created: 100, Used: 100, Idle: 50, Absolute: 120, Grace: 10, Gen: n, Token: 6, State: api.Active,
	}), api.OK)
	wantErrno(t, "PutToken", b.x.PutToken(api.Token{ID: 6, Family: 5, Gen: n, Hash: digestOf(text), Minted: 100}), api.OK)
	wantErrno(t, "Commit", b.x.Commit(), api.OK)
	return b, text
}

// G4: behind the generation 2^30 there is none.
func TestRotateLastGeneration(t *testing.T) {
	b, text := lastGeneration(t, lastGen)
	was := toldOf(t, b.x)
	was.now = 110
	b.wantRefused(rotate("app", text, names("admin"), 110, secret(2)), api.ErrGrantScope)
	for range 2 {
		b.wantRefused(rotate("app", text, nil, 110, secret(2)), api.ErrTableWorn)
		if d := toldOf(t, b.x).differ(was); d != "" || nextOf(b.x) != 100 {
			t.Fatal(d)
		}
	}
	if info := introspect(text, 110).do(b.x).info; !info.Active || info.Gen != lastGen {
		t.Fatalf("%#v", info)
	}
	wantErrno(t, "at its end", rotate("app", text, nil, 150, secret(2)).do(b.x).errno, api.ErrGrantToken)
	b.family(5, api.Expired, 150)

	b, text = lastGeneration(t, lastGen-1)
	a := rotate("app", text, nil, 110, secret(2)).do(b.x)
	if a.errno != api.OK || a.issued.Gen != lastGen || a.issued.Token != textOf("lkr_", 100, secret(2)) {
		t.Fatalf("%#v", a)
	}
	if again := rotate("app", text, nil, 119, secret(3)).do(b.x); !again.same(a) {
		t.Fatalf("%#v", again)
	}
	b.wantRefused(rotate("app", a.issued.Token, nil, 119, secret(2)), api.ErrTableWorn)
}

// G4: an ID is left, none; a number for the event, none; a replay and a refusal need none.
func TestRotateWorn(t *testing.T) {
	for _, c := range []struct {
		next, events int // the next ID, and how many numbers are left
		want         api.Errno
	}{
		{lastID - 1, 5, api.OK}, {lastID, 5, api.OK}, {lastID + 1, 5, api.ErrTableWorn}, {100, 1, api.OK}, {100, 0, api.ErrTableWorn}, {lastID + 1, 0, api.ErrTableWorn}, {lastID, 1, api.OK},
	} {
		b := founded(t, 256, 1, lastID-3-c.events, three()...)
		first := b.gives(issue("app", "ann", nil, 100, secret(1)))
		second := b.gives(rotate("app", first, nil, 110, secret(2)))
		gone := b.gives(issue("app", "bob", nil, 110, secret(3)))
		b.d = noted(t, b.d, c.next)
		b.b.next = c.next
		b.x = opened(t, b.d)
		b.want(rotate("app", first, nil, 119, secret(4)), api.OK)
		b.want(rotate("app", second, names("admin"), 119, secret(4)), api.ErrGrantScope)
		b.want(rotate("app", "x", nil, 119, secret(4)), api.ErrGrantToken)
		b.want(rotate("web", gone, nil, 119, secret(4)), api.ErrGrantToken)
		b.want(rotate("app", second, nil, 119, secret(4)), c.want)
		b.look("behind all")
		ended := api.ErrGrantToken
		if b.b.left() == 0 {
			ended = api.ErrTableWorn
		}
		b.want(rotate("app", first, nil, 120, secret(4)), ended)
		if b.b.left() == 0 {
			ended = api.ErrTableWorn
		}
		b.want(rotate("app", gone, nil, 300, secret(4)), ended)
		b.reopen()
	}
}

// G4: what is told hangs on nothing but what is asked: each text of many families, by each client, with each scope, at each time.
func TestRotateAll(t *testing.T) {
	t.Parallel()
	image := newBoth(t)
	for n := range 6 {
		client := []string{"app", "web"}[n%2]
		text := image.gives(issue(client, fmt.Sprint("s", n%3), rightScopes()[n%5], 100, secret(n)))
		for g := range n {
			text = image.gives(rotate(client, text, nil, 101+g, secret(10*n+g)))
		}
	}
	for _, text := range append(image.b.texts(), "x", textOf("lkr_", 1, secret(0))) {
		t.Run(text, func(t *testing.T) {
			t.Parallel()
			for _, client := range []string{"app", "web", "off", "gone"} {
				for _, now := range []int{105, 111, 114, 149, 153, 156} {
					b := image.twin(t)
					for _, scope := range [][]string{names("admin"), names("write"), nil} {
						b.quick(rotate(client, text, scope, now, secret(77)))
					}
					b.look("behind all")
				}
			}
		})
	}
}
