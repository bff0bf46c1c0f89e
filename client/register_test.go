package client_test

import (
	"fmt"
	"testing"

	"latchkey/api"
	"latchkey/client"
)

// wrong is one thing that may not be registered, of a client that may be otherwise.
type wrong struct {
	what   string
	change func(c *api.Client, secret *string)
}

// wrongs are all of them, each alone, at its edge where it has one.
func wrongs() []wrong {
	var l []wrong
	add := func(what string, change func(c *api.Client, secret *string)) {
		l = append(l, wrong{what, change})
	}
	for _, name := range wrongNames() {
		add(fmt.Sprintf("the name %.20q", name), func(c *api.Client, _ *string) { c.Name = name })
	}
	for _, names := range wrongScopes() {
		add(fmt.Sprintf("the scope %q", names), func(c *api.Client, _ *string) { c.Scope = names })
	}
	for _, n := range []int{least, least + 1, -lastTime, -1, 0, lastTime + 1, 1 << 62, most - 1, most} {
		add(fmt.Sprint("Idle ", n), func(c *api.Client, _ *string) { c.Idle = n })
		add(fmt.Sprint("Absolute ", n), func(c *api.Client, _ *string) { c.Absolute = n })
		add(fmt.Sprint("Life ", n), func(c *api.Client, _ *string) { c.Life = n })
		if n != 0 {
			add(fmt.Sprint("Grace ", n), func(c *api.Client, _ *string) { c.Grace = n })
			add(fmt.Sprint("Until ", n), func(c *api.Client, _ *string) { c.Until = n })
		}
	}
	for _, n := range []int{1, 100, lastTime} {
		add(fmt.Sprint("Until ", n), func(c *api.Client, _ *string) { c.Until = n })
	}
	for _, s := range []string{"\x00", "x", digestOf(p), digestOf(q), many(1000, "h")} {
		add(fmt.Sprintf("Hash %.20q", s), func(c *api.Client, _ *string) { c.Hash = s })
		add(fmt.Sprintf("Old %.20q", s), func(c *api.Client, _ *string) { c.Old = s })
		add(fmt.Sprintf("both digests %.20q", s), func(c *api.Client, _ *string) { c.Hash, c.Old, c.Until = s, s, 5 })
	}
	for _, s := range append(wrongPasswords(), "") {
		add(fmt.Sprintf("the secret %.70q", s), func(_ *api.Client, secret *string) { *secret = s })
	}
	for _, s := range append(wrongPasswords(), rightPasswords()...) {
		if s != "" {
			add(fmt.Sprintf("public, with the secret %.70q", s), func(c *api.Client, secret *string) { c.Public, *secret = true, s })
		}
	}
	add("public, with a digest", func(c *api.Client, secret *string) { c.Public, c.Hash, *secret = true, digestOf(""), "" })
	return l
}

func rightNames() []string {
	return []string{"a", "z", "0", "9", "-", "_", ".", "app", "a-b_c.9", many(16, "a"), many(16, ".")}
}

func wrongNames() []string {
	l := []string{"", "App", "APP", " ", "a ", " a", "a b", "é", "\x00", "a\x00", "\xff", many(17, "a"), many(300, "b"), many(1<<16, "c")}
	for b := range 256 {
		if s := string([]byte{'a', byte(b)}); !isNameOK(s) {
			l = append(l, s)
		}
	}
	return l
}

func rightScopes() [][]string {
	return [][]string{nil, {}, {"a"}, {"read", "write"}, {"a", "b", "c", "d", "e", "f", "g", "h"}, {many(16, "a"), many(16, "b"), many(16, "c"), "ddddddddd"}}
}

func wrongScopes() [][]string {
	return [][]string{
		{""}, {"b", "a"}, {"a", "a"}, {"A"}, {"a", ""}, {"a b"}, {many(17, "a")}, {"a", "b", "c", "d", "e", "f", "g", "h", "i"},
		{many(16, "a"), many(16, "b"), many(16, "c"), "dddddddddd"}, {many(15, "a"), many(15, "b"), many(15, "c"), many(15, "d")},
	}
}

func rightPasswords() []string {
	return []string{p, q, many(16, "!"), many(16, "~"), many(64, "!"), many(64, "~"), many(17, "x"), many(63, "x"), "!\"#$%&'()*+,-./0123456789:;<=>?@ABCDEFGHIJKLMNOPQRSTUVWXYZ[\\]^_`"}
}

func wrongPasswords() []string {
	l := []string{"x", p[:15], many(65, "p"), many(1000, "p"), many(1<<16, "p"), many(16, " "), many(16, "\x7f"), many(16, "\x00"), many(16, "\xff"), many(8, "é")}
	for b := range 256 {
		if b < 33 || b > 126 {
			bad := string([]byte{byte(b)})
			l = append(l, bad+p, p+bad, p[:8]+bad+p[8:], p[:15]+bad)
		}
	}
	return l
}

// C1: each thing wrong alone.
func TestRegisterEachWrong(t *testing.T) {
	b := withApp(t)
	for _, w := range wrongs() {
		c, secret := someClient("web"), q
		w.change(&c, &secret)
		if isFieldOK(c, secret) {
			t.Fatalf("the test is wrong: %s", w.what)
		}
		if errno := client.Register(b.x, c, secret, 100); errno != api.ErrClientField {
			t.Fatalf("%s: %d", w.what, errno)
		}
	}
	b.look("behind all that was wrong")
	b.want(register(someClient("web"), q, 100), api.OK)
}

// C1: two things wrong at once; what is wrong is told ahead of a client that is there, of too many, of a dead disk.
func TestRegisterWrongFirst(t *testing.T) {
	b := withApp(t)
	for n := range 7 {
		b.want(register(publicClient(fmt.Sprint("c", n)), "", 100), api.OK)
	}
	l := wrongs()
	all := func(what string) {
		for n, w := range l {
			for _, name := range []string{"app", "ninth"} {
				c, secret := someClient(name), q
				w.change(&c, &secret)
				wantErrno(t, what+": "+w.what, client.Register(b.x, c, secret, 100), api.ErrClientField)
				l[(n*7+3)%len(l)].change(&c, &secret)
				if !isFieldOK(c, secret) { // the other one may have put right what was wrong
					wantErrno(t, what+": "+w.what+", and another", client.Register(b.x, c, secret, 100), api.ErrClientField)
				}
			}
		}
	}
	all("eight clients")
	b.look("eight clients")
	b.want(register(app(), q, 100), api.ErrClientThere)
	b.want(register(someClient("ninth"), q, 100), api.ErrClientMany)
	kill(t, b.d)
	all("dead")
	b.wantDead(register(app(), q, 100))
	b.wantDead(register(someClient("ninth"), q, 100))
	wantErrno(t, "Crash", b.d.Crash(nil), api.OK)
	all("in doubt")
	b.wantDead(register(app(), q, 100))
	b.wantDead(register(someClient("ninth"), q, 100))
}

// C1: all that may be, each at its edge.
func TestRegisterEachRight(t *testing.T) {
	one := func(c api.Client, secret string) {
		t.Helper()
		b := newBoth(t, 16)
		b.want(register(c, secret, 7), api.OK)
		b.want(ask(c.Name, secret, 7), map[bool]api.Errno{false: api.OK, true: api.ErrClientOff}[c.Off])
		b.reopen()
	}
	for _, name := range rightNames() {
		one(someClient(name), p)
	}
	for _, names := range rightScopes() {
		c := app()
		c.Scope = names
		one(c, p)
	}
	for _, secret := range rightPasswords() {
		one(app(), secret)
	}
	for _, n := range []int{1, 2, lastTime - 1, lastTime} {
		for _, field := range []func(c *api.Client) *int{
			func(c *api.Client) *int { return &c.Idle }, func(c *api.Client) *int { return &c.Absolute },
			func(c *api.Client) *int { return &c.Life }, func(c *api.Client) *int { return &c.Grace },
		} {
			c := app()
			*field(&c) = n
			one(c, p)
		}
	}
	c := app()
	c.Grace = 0
	one(c, p)
	one(greatest("app"), many(64, "~"))
	for _, off := range []bool{false, true} {
		for _, public := range []bool{false, true} {
			c, secret := app(), p
			if c.Off, c.Public = off, public; public {
				secret = ""
			}
			one(c, secret)
		}
	}
}

// C1: Off is kept as it was handed in, and may be switched.
func TestRegisterOff(t *testing.T) {
	b := newBoth(t, 64)
	c := app()
	c.Off = true
	b.want(register(c, p, 5), api.OK)
	b.want(ask("app", p, 5), api.ErrClientOff)
	b.want(turn("app", true, 5), api.OK)
	b.want(turn("app", false, 5), api.OK)
	b.want(ask("app", p, 5), api.OK)
}

// C1: eight clients, and a ninth one; one that is there already is told first.
func TestRegisterMany(t *testing.T) {
	b := newBoth(t, 64)
	for n, name := range []string{"h", "b", "zz", "a", "aa", "0", ".", "m"} {
		c, secret := someClient(name), rightPasswords()[n]
		if n%3 == 1 {
			c, secret = publicClient(name), ""
		}
		b.want(register(c, secret, 10*n), api.OK)
		b.want(register(c, secret, 10*n), api.ErrClientThere)
		b.want(register(publicClient(name), "", 10*n), api.ErrClientThere)
	}
	b.want(register(someClient("n"), p, 80), api.ErrClientMany)
	b.want(register(publicClient("n"), "", 80), api.ErrClientMany)
	b.want(register(someClient("m"), p, 80), api.ErrClientThere)
	b.want(turn("m", true, 80), api.OK)
	b.want(register(someClient("n"), p, 80), api.ErrClientMany)
	b.want(register(someClient("m"), p, 80), api.ErrClientThere)
	b.reopen()
	b.want(register(someClient("n"), p, 80), api.ErrClientMany)
	b.want(ask("n", p, 80), api.ErrClientNone)
}

// C1: a disk that dies in each act of it.
func TestRegisterDies(t *testing.T) {
	for act := 1; ; act++ {
		b := newBoth(t, 16)
		wantErrno(t, "Arm", b.d.Arm(act), api.OK)
		if errno := client.Register(b.x, app(), p, 9); errno == api.OK {
			if act != 5 {
				t.Fatalf("%d acts", act-1)
			}
			break
		}
		b.wantDead(ask("app", p, 9))
		wantErrno(t, "Crash", b.d.Crash(nil), api.OK)
		b.wantDead(register(app(), p, 9))
		b.reopen()
		b.want(register(app(), p, 9), api.OK)
	}
}

// C1: the first commit of all writes one page, and its four acts are those of layer 9.
func TestRegisterActs(t *testing.T) {
	d, x := began(t, 16)
	acts := d.Acts()
	wantErrno(t, "Register", client.Register(x, app(), p, 9), api.OK)
	if d.Acts() != acts+4 || len(d.Pending()) > 0 {
		t.Fatalf("%d acts, %d pending", d.Acts()-acts, len(d.Pending()))
	}
	if c, errno := client.Check(opened(t, loaded(t, d.Blocks())), "app", p, 0); errno != api.OK || c.Hash != digestOf(p) {
		t.Fatalf("%#v, %d", c, errno)
	}
}
