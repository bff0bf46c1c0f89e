package grant_test

import (
	"fmt"
	"testing"

	"latchkey/api"
)

// G5: of a family that is active, by whichever of its texts; then of one that has ended.
func TestRevoke(t *testing.T) {
	for which := range 2 {
		for _, now := range []int{least, 110, 111, 119, 120, 159} {
			b, first, second := turned(t)
			b.want(revoke("app", []string{first, second}[which], now), api.OK)
			b.family(1, api.Revoked, max(now, 110))
			b.event(api.EventRevoke, 1, max(now, 110), "app")
			for _, text := range []string{first, second} {
				b.want(revoke("app", text, now), api.OK)
				b.want(revoke("app", text, 500), api.OK)
				b.want(rotate("app", text, nil, now, secret(3)), api.ErrGrantToken)
				if b.want(introspect(text, least), api.OK).info.Active {
					t.Fatal("it is active")
				}
			}
			b.family(1, api.Revoked, max(now, 110))
			b.reopen()
		}
	}
}

// G5: a family that is not alive any more is revoked all the same.
func TestRevokeOver(t *testing.T) {
	for _, now := range []int{160, 161, 10000, lastTime, most} {
		b, first, _ := turned(t)
		b.want(revoke("app", first, now), api.OK)
		b.family(1, api.Revoked, min(now, lastTime))
		b.event(api.EventRevoke, 1, min(now, lastTime), "app")
	}
}

// G5: of a family that has ended already nothing is changed, in each state.
func TestRevokeEnded(t *testing.T) {
	b, first, second := turned(t)
	b.want(rotate("app", first, nil, 130, secret(3)), api.ErrGrantToken)
	b.want(revoke("app", second, 140), api.OK)
	b.want(revokeAll("ann", 150), api.OK)
	b.family(1, api.Reused, 130)
	b, _, second = turned(t)
	b.want(rotate("app", second, nil, 160, secret(3)), api.ErrGrantToken)
	b.want(revoke("app", second, 170), api.OK)
	b.want(revokeAll("ann", 180), api.OK)
	b.family(1, api.Expired, 160)
}

// G5: of another client's, and of a text that is not found: OK, and no act.
func TestRevokeNotFound(t *testing.T) {
	b, first, second := turned(t)
	for _, text := range strangers(b) {
		if a := b.quick(revoke("app", text, 115)); a.errno != api.OK {
			t.Fatalf("%q: %d", text, a.errno)
		}
	}
	for _, text := range []string{first, second} {
		b.want(revoke("web", text, 115), api.OK)
		b.want(revoke("off", text, 115), api.OK)
		b.want(revoke("gone", text, 115), api.ErrClientNone)
		for _, name := range wrongNames() {
			b.want(revoke(name, text, 115), api.ErrArg)
		}
	}
	b.want(revoke("gone", "x", 115), api.ErrClientNone)
	b.want(revoke("App", "x", 115), api.ErrArg)
	b.family(1, api.Active, 0)
}

// G5: others' families stay.
func TestRevokeOne(t *testing.T) {
	b, first, _ := turned(t)
	other := b.gives(issue("app", "ann", nil, 110, secret(5)))
	web := b.gives(issue("web", "ann", nil, 110, secret(6)))
	b.want(revoke("app", first, 111), api.OK)
	for _, text := range []string{other, web} {
		if !b.want(introspect(text, 112), api.OK).info.Active {
			t.Fatal("it has ended, too")
		}
	}
	b.want(rotate("web", web, nil, 112, secret(7)), api.OK)
}

// G5: RevokeAll of none, of one and of several, alive and not; all in one commit, by rising IDs.
func TestRevokeAll(t *testing.T) {
	b := newBoth(t)
	b.want(revokeAll("ann", 50), api.OK)
	b.want(issue("app", "bob", nil, 100, secret(9)), api.OK)
	b.want(revokeAll("ann", 100), api.OK)
	b.want(revokeAll("bo", 100), api.OK)
	b.want(revokeAll("bobb", 100), api.OK)
	var texts []string
	for n := range 4 { // the ends are 150, 160, 170, 180
		texts = append(texts, b.gives(issue([]string{"app", "web"}[n%2], "ann", nil, 100+10*n, secret(n))))
	}
	for alive, now := range map[int]int{4: 149, 3: 150, 2: 160, 1: 179, 0: 180} {
		c := b.twin(t)
		if n := c.want(revokeAll("ann", now), api.OK).count; n != alive {
			t.Fatalf("at %d: %d", now, n)
		}
		for n, id := range []int{3, 5, 7, 9} {
			c.family(id, api.Revoked, now)
			l, errno := c.x.Events()
			want := api.Event{Number: 6 + n, Time: now, Kind: api.EventRevoke, Family: id, Who: "ann"}
			if errno != api.OK || len(l) != 9 || l[5+n] != want {
				t.Fatalf("the events: %v, %d", l, errno)
			}
		}
		c.family(1, api.Active, 0)
		for _, text := range texts {
			c.want(introspect(text, 0), api.OK)
			c.want(rotate("app", text, nil, 0, secret(3)), api.ErrGrantToken)
		}
		if n := c.want(revokeAll("ann", now+1), api.OK).count; n != 0 {
			t.Fatalf("again: %d", n)
		}
		c.reopen()
	}
}

// G5: of a subject some of whose families have ended already: those stay as they are.
func TestRevokeAllOfSome(t *testing.T) {
	b := newBoth(t)
	var texts []string
	for n := range 3 {
		texts = append(texts, b.gives(issue("app", "ann", nil, 100, secret(n))))
	}
	b.want(revoke("app", texts[1], 105), api.OK)
	if n := b.want(revokeAll("ann", 110), api.OK).count; n != 2 {
		t.Fatalf("RevokeAll: %d", n)
	}
	b.family(1, api.Revoked, 110)
	b.family(3, api.Revoked, 105)
	b.family(5, api.Revoked, 110)
}

// G5: of more than there are events that are kept, most of them not alive any more.
func TestRevokeAllOfMany(t *testing.T) {
	b := founded(t, 1024, 1, 0, three()...)
	for n := range 50 {
		if a := b.quick(issue("app", "ann", nil, 50*n/3, secret(n))); a.errno != api.OK {
			t.Fatal(a.errno)
		}
	}
	if n := b.want(revokeAll("ann", 0), api.OK).count; n != 3 {
		t.Fatalf("RevokeAll: %d", n)
	}
	l, errno := b.x.Events()
	if errno != api.OK || len(l) != 32 || l[31].Family != 99 || l[0].Family != 37 || l[0].Kind != api.EventRevoke {
		t.Fatalf("the events: %v, %d", l, errno)
	}
	if n := b.want(revokeAll("ann", most), api.OK).count; n != 0 {
		t.Fatalf("again: %d", n)
	}
	b.reopen()
}

// G5: as many numbers as events, and one less: all are ended, or none.
func TestRevokeAllWorn(t *testing.T) {
	for left := range 6 {
		b := founded(t, 256, 1, lastID-4-left, three()...)
		for n := range 4 {
			b.want(issue("app", "ann", nil, 100, secret(n)), api.OK)
		}
		want := api.ErrTableWorn
		if left >= 4 {
			want = api.OK
		}
		b.want(revokeAll("bob", 110), api.OK)
		b.want(revokeAll("ann", 110), want)
		b.want(revokeAll("ann", 300), want)
		b.reopen()
	}
}

func TestRevokeAllArguments(t *testing.T) {
	b, _, _ := turned(t)
	for _, name := range wrongNames() {
		for _, now := range []int{least, 111, 300} {
			b.want(revokeAll(name, now), api.ErrArg)
		}
	}
	b.family(1, api.Active, 0)
	for _, name := range []string{"a", "ann.", "-", many(16, "_")} {
		b.want(revokeAll(name, 300), api.OK)
	}
}

// G5: subjects whose names go on from one another.
func TestRevokeAllOfNeighbours(t *testing.T) {
	all := []string{"a", "an", "ann", "anna", "ann-", "ann.", "ann0", "ann_", "b", many(16, "a")}
	for _, subject := range all {
		b := newBoth(t)
		for n, s := range all {
			b.quick(issue("app", s, nil, 100, secret(n)))
		}
		if n := b.want(revokeAll(subject, 101), api.OK).count; n != 1 {
			t.Fatalf("%s: %d", subject, n)
		}
		if n := b.want(revokeAll(fmt.Sprint(subject[:1], "0"), 101), api.OK).count; n != 0 {
			t.Fatalf("%s: %d", subject, n)
		}
	}
}
