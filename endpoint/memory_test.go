package endpoint_test

import (
	"fmt"
	"slices"
	"strings"
	"sync"
	"testing"
	"unsafe"

	"latchkey/api"
	"latchkey/endpoint"
)

// roomy is a list with spare room behind it, and all of that as it is.
func roomy[T any](spare T, l ...T) (list, all []T) {
	all = append(append([]T{spare}, l...), spare, spare, spare)
	return all[1 : 1+len(l)], all
}

// R2: the lists that are handed in, with their spare room, are not written into.
func TestListsStay(t *testing.T) {
	b := stands(t, home(t), config())
	first := b.issue("app", "ann", nil, 100, 1).Token
	for _, m := range append(someRequests(), refreshing("app", first), revoking("app", first), asking("app", first), with(asking("app", first), "Authorization", "x")) {
		list, all := roomy(api.Field{Name: "Content-Type", Value: "spare"}, m.Headers...)
		was := slices.Clone(all)
		m.Headers = list
		b.e.Serve(m, 110, secret(2))
		if !slices.Equal(all, was) {
			t.Fatalf("%s: %v", whatOf(m), all)
		}
	}
	secrets, all := roomy(secret(9), secret(1), secret(2), "")
	was := slices.Clone(all)
	b.e.Connect().Feed(many(5, bytesOf(t, asking("app", "x")))+"x\r\n", 120, secrets)
	if !slices.Equal(all, was) {
		t.Fatalf("Feed has written %q", all)
	}
}

// R2: the lists that come out are new memory, spare room too.
func TestListsAreNew(t *testing.T) {
	b := paced(t, 0, 1000)
	first := b.issue("app", "ann", nil, 100, 1).Token
	requests := append(someRequests(), refreshing("app", first), asking("app", first), revoking("app", first), post("/token"))
	for range 3 {
		for _, m := range requests {
			a := b.serve(m, 110, secret(2))
			l := a.Headers[:cap(a.Headers)]
			for n := range l {
				l[n] = api.Field{Name: "mine", Value: "mine"}
			}
			if m.Path == "/revoke" {
				break
			}
			b.serve(m, 110, secret(2))
		}
	}
	b.look("behind all")
}

// borrowed is a text whose bytes somebody else may change.
func borrowed(s string) (text string, l []byte) {
	l = []byte(s)
	return unsafe.String(&l[0], len(l)), l
}

func spoil(l []byte) {
	for n := range l {
		l[n] = '#'
	}
}

// R2: what is handed in is not kept: neither lists nor texts.
func TestNothingIsKept(t *testing.T) {
	b := stands(t, home(t), config())
	issuer, issuerBytes := borrowed("home")
	c := config()
	c.Issuer, c.Rate, c.Burst = issuer, 0, 2
	b.c.Rate, b.c.Burst = 0, 2
	b.renew()
	e, errno := endpoint.New(b.x, c)
	wantErrno(t, "New", errno, api.OK)
	spoil(issuerBytes)
	wantAnswer(t, "nobody", e.Serve(post("/token"), 20, ""), nobody)
	b.e = e
	first := b.issue("web", "ann", nil, 100, 1).Token
	m := refreshing("web", first)
	var all [][]byte
	lend := func(s string) string {
		text, l := borrowed(s)
		all = append(all, l)
		return text
	}
	m.Body = lend(m.Body)
	for n := range m.Headers {
		m.Headers[n].Name, m.Headers[n].Value = lend(m.Headers[n].Name), lend(m.Headers[n].Value)
	}
	minted := lend(secret(2))
	a := e.Serve(m, 110, minted)
	for _, l := range all {
		spoil(l)
	}
	want := b.k.serve(refreshing("web", first), 110, secret(2))
	wantAnswer(t, "behind that", a, want)
	b.alike("behind that")
	b.same(want, refreshing("web", first), 110, secret(3))
	b.same(hasty("1099511627776"), asking("web", "x"), 110, "")
	b.look("behind all")
}

// R2: a line keeps none of the bytes that it was fed, nor of the secrets.
func TestLineKeepsNothing(t *testing.T) {
	b := stands(t, home(t), config())
	first := b.issue("app", "ann", nil, 100, 1).Token
	m := refreshing("app", first)
	l := b.e.Connect()
	out := ""
	s := bytesOf(t, m)
	for part := range slices.Chunk([]byte(s), 11) {
		text, bytes := borrowed(string(part))
		minted, minting := borrowed(secret(2))
		secrets := []string{minted}
		out += l.Feed(text, 110, secrets)
		spoil(bytes)
		spoil(minting)
		secrets[0] = "mine"
	}
	if want := b.linedAll(110, []string{secret(2)}, m); out != want {
		t.Fatalf("%q, want %q", out, want)
	}
	b.alike("Feed")
	b.look("behind it")
}

// R2: two endpoints over two tables, by turns, know nothing of one another, also if the one is dead.
func TestTwoEndpoints(t *testing.T) {
	one, two := paced(t, 0, 30), paced(t, 0, 30)
	mine := one.issue("app", "ann", nil, 100, 1).Token
	yours := two.issue("app", "ann", nil, 100, 2).Token
	for range 12 {
		one.same(worthless, asking("app", yours), 100, "")
		two.same(worthless, asking("app", mine), 100, "")
	}
	kill(t, one.d)
	kill(t, one.d2)
	one.same(later, asking("app", mine), 100, "")
	two.gives(refreshing("app", yours), 110, secret(3))
	if one.x.Now() != 100 {
		t.Fatalf("the time is %d", one.x.Now())
	}
}

// played is all that comes of a row of requests.
func played(t *testing.T) string {
	d := home(t)
	x := opened(t, d)
	e, errno := endpoint.New(x, config())
	if errno != api.OK {
		t.Errorf("New: %d", errno)
	}
	var out strings.Builder
	l := e.Connect()
	for n := range 20 {
		out.WriteString(l.Feed(bytesOf(t, refreshing("app", textOf("lkr_", n, secret(n))), asking("web", "x"), revoking("app", "x")), 100+n, []string{secret(n)}))
		s, errno := e.Tend(100 + n)
		fmt.Fprint(&out, s, errno)
	}
	return out.String() + strings.Join(d.Blocks(), "")
}

// R2: the same each time, and at the same time: nothing is shared that is not handed in.
func TestAtTheSameTime(t *testing.T) {
	want := played(t)
	var group sync.WaitGroup
	for range 8 {
		group.Go(func() {
			for range 5 {
				if played(t) != want {
					t.Error("something else has come of the same calls")
				}
			}
		})
	}
	group.Wait()
}
