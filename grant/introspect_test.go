package grant_test

import (
	"fmt"
	"testing"

	"latchkey/api"
)

// G6: of texts found, of families alive, over and ended.
func TestIntrospect(t *testing.T) {
	b, first, second := turned(t)
	if i := b.want(introspect(second, 159), api.OK).info; !same(i, api.Info{
		Active: true, Client: "app", Subject: "ann", Scope: names("read", "write"), Family: 1, Issued: 110, End: 160, Gen: 2,
	}) {
		t.Fatalf("%#v", i)
	}
	for _, now := range []int{least, 110, 119, 120, 159, 160} {
		if i := b.want(introspect(first, now), api.OK).info; !same(i, api.Info{}) {
			t.Fatalf("a spent one at %d: %#v", now, i)
		}
	}
	for _, now := range []int{160, 161, most, least} {
		if i := b.want(introspect(second, now), api.OK).info; !same(i, api.Info{}) {
			t.Fatalf("at %d: %#v", now, i)
		}
	}
	b.family(1, api.Active, 0) // it is over, but nobody noted that
}

// G6: of a family that has ended, in each state.
func TestIntrospectEnded(t *testing.T) {
	for state := api.Revoked; state <= api.Expired; state++ {
		b, first, second := turned(t)
		switch state {
		case api.Revoked:
			b.want(revoke("app", second, 130), api.OK)
		case api.Reused:
			b.want(rotate("app", first, nil, 130, secret(3)), api.ErrGrantToken)
		case api.Expired:
			b.want(rotate("app", second, nil, 160, secret(3)), api.ErrGrantToken)
		}
		for _, text := range []string{first, second} {
			for _, now := range []int{least, 130, 160, most} {
				if i := b.want(introspect(text, now), api.OK).info; !same(i, api.Info{}) {
					t.Fatalf("%#v", i)
				}
			}
		}
	}
}

// G6: of texts not found.
func TestIntrospectNotFound(t *testing.T) {
	b, _, _ := turned(t)
	for _, text := range strangers(b) {
		if a := b.quick(introspect(text, 115)); a.errno != api.OK || !same(a.info, api.Info{}) {
			t.Fatalf("%q: %#v", text, a)
		}
	}
	b.look("behind all")
}

// G6: each byte of a text that was minted, changed: it is not found, by any call.
func TestMistyped(t *testing.T) {
	b, first, second := turned(t)
	for _, text := range []string{first, second} {
		for n := range len(text) {
			for _, c := range []byte("Aa0-_=+ \x00\xff") {
				wrong := []byte(text)
				if wrong[n] == c {
					continue
				}
				wrong[n] = c
				b.wantRefused(introspect(string(wrong), 115), api.OK)
				b.wantRefused(rotate("app", string(wrong), nil, 115, secret(3)), api.ErrGrantToken)
				b.wantRefused(revoke("app", string(wrong), 115), api.OK)
			}
		}
	}
	b.b.see(115)
	b.look("behind all")
}

// G6: nothing is changed but that the clock has seen the reading, whatever comes.
func TestIntrospectReadings(t *testing.T) {
	b, first, second := turned(t)
	for _, c := range [][2]int{{least, 110}, {-1, 110}, {0, 110}, {111, 111}, {110, 111}, {155, 155}, {lastTime - 1, lastTime - 1}, {lastTime, lastTime}, {most, lastTime}, {least, lastTime}} {
		for _, text := range []string{"x", first, second} {
			b.want(introspect(text, c[0]), api.OK)
			if b.x.Now() != c[1] {
				t.Fatalf("the time is %d, want %d", b.x.Now(), c[1])
			}
		}
	}
	b.reopen() // its time was noted by nobody
	if b.x.Now() != 110 {
		t.Fatalf("the time is %d", b.x.Now())
	}
}

// G7: of one family at most one token is told active at a time; of all families all that are current.
func TestIntrospectAll(t *testing.T) {
	b := newBoth(t)
	for n := range 5 {
		text := b.gives(issue("app", fmt.Sprint("s", n), nil, 100, secret(n)))
		for g := range n {
			text = b.gives(rotate("app", text, nil, 100+g, secret(10*n+g)))
		}
	}
	b.wantOneActive()
}

// wantOneActive asks for all texts, and counts.
func (b *both) wantOneActive() {
	b.t.Helper()
	active := map[int]int{}
	for _, text := range b.b.texts() {
		if i := b.quick(introspect(text, least)).info; i.Active {
			active[i.Family]++
		}
	}
	for _, id := range b.b.ids() {
		want := 0
		if b.b.lines[id].alive(b.b.now) {
			want = 1
		}
		if active[id] != want {
			b.t.Fatalf("%d tokens of the family %d are active, want %d", active[id], id, want)
		}
	}
}
