package endpoint_test

import (
	"fmt"
	"testing"

	"latchkey/api"
	"latchkey/grant"
	"latchkey/table"
	"latchkey/trail"
)

// someBegun are things that somebody may have begun on a table like the stage's.
func someBegun() []func(x *table.Table) {
	return []func(x *table.Table){
		func(x *table.Table) { x.ID() },
		func(x *table.Table) { x.PutClient(publicClient("gone")) },
		func(x *table.Table) { x.PutClient(publicClient("app")) },
		func(x *table.Table) { trail.Note(x, api.EventKey, 0, "") },
		func(x *table.Table) {
			x.PutChain(api.Chain{Base: lastID, Next: lastID + 1, BaseHash: digestOf("a"), NextHash: digestOf("b")})
		},
		func(x *table.Table) {
			l, _ := x.Ending(most, most)
			for _, id := range l {
				x.Remove(id)
			}
		},
		func(x *table.Table) {
			l, _ := x.Codes()
			for _, k := range l {
				x.RemoveCode(k.ID)
			}
		},
		func(x *table.Table) { x.RemoveKey(1) },
		func(x *table.Table) { x.PutKey(api.Key{Number: 7, Secret: secret(7), From: 50, Until: 500}) },
		func(x *table.Table) { grant.Begin(x, "app", "ann", nil, 0, secret(1)) },
		func(x *table.Table) {
			x.RemoveKey(1)
			x.PutClient(publicClient("app"))
			x.ID()
			grant.Begin(x, "web", "bob", nil, 3, secret(1))
		},
	}
}

// R4: what somebody has begun and not committed has no part in any answer, and comes into no commit.
func TestForgetsWhatWasBegun(t *testing.T) {
	t.Parallel()
	base, requests := stage(t)
	form, _ := formOf(requests["fresh"].Body)
	requests["revoked"], requests["told"] = revoking("app", form["refresh_token"]), asking("web", form["refresh_token"])
	requests["nobody"], requests["nothing"], requests["begun"] = post("/token", "client_id", "gone"), by("app", post("/token")), asking("app", textOf("lkr_", 99, secret(1)))
	for shown, m := range requests {
		t.Run(shown, func(t *testing.T) {
			t.Parallel()
			for _, begin := range someBegun() {
				b := stands(t, base, config())
				begin(b.x) // the model's table stays as it was
				b.serve(m, 120, secret(50))
				b.look(shown)
				b.serve(requests["fresh"], 121, secret(51))
				begin(b.x)
				b.tend(5000)
				b.look(shown)
			}
		})
	}
}

// The words say that the calls below forget: a request that makes none forgets nothing.
func TestForgetsNothingAtOnce(t *testing.T) {
	b := stands(t, home(t), config())
	for _, m := range []api.Message{post("/"), {Method: "GET", Path: "/token"}, {Method: "POST", Path: "/token"}, post("/token", "a", "1", "a", "2"), by("app", post("/token", "client_id", "app")), post("/token")} {
		wantErrno(t, "PutClient", b.x.PutClient(publicClient("gone")), api.OK)
		b.same(b.k.serve(m, 20, ""), m, 20, "")
		if _, errno := b.x.Client("gone"); errno != api.OK {
			t.Fatalf("%s: %d", whatOf(m), errno)
		}
	}
	b.same(nobody, post("/token", "client_id", "gone"), 20, "")
	if _, errno := b.x.Client("gone"); errno != api.ErrTableNone {
		t.Fatalf("%d", errno)
	}
}

// R5: each request shows its reading to the clock first of all, whatever comes of it; also one that is refused at once.
func TestReadings(t *testing.T) {
	t.Parallel()
	base, requests := stage(t)
	l := someRequests()
	for _, m := range requests {
		l = append(l, m)
	}
	l = append(l, by("app", post("/token", "a", "1", "a", "2")), by("app", post("/token", "client_id", "app")), asking("off", "x"), by("app", post("/token")), by("app", post("/revoke")), by("app", post("/introspect")), api.Message{})
	for _, dead := range []bool{false, true} {
		t.Run(fmt.Sprint(dead), func(t *testing.T) {
			t.Parallel()
			for _, m := range l {
				for _, reading := range allReadings {
					b := stands(t, base, config())
					if dead {
						kill(t, b.d)
						kill(t, b.d2)
					}
					began := b.x.Now()
					b.serve(m, reading, secret(50))
					if want := max(began, min(reading, lastTime)); b.x.Now() != want {
						t.Fatalf("%s at %d: the time is %d, want %d", whatOf(m), reading, b.x.Now(), want)
					}
				}
			}
		})
	}
}

// R5: who asks too often shows his reading, too.
func TestReadingsOfTheHasty(t *testing.T) {
	b := paced(t, 0, 1)
	b.same(worthless, asking("app", "x"), 20, "")
	b.same(hasty("1099511627776"), asking("app", "x"), 30, "")
	if b.x.Now() != 30 {
		t.Fatalf("the time is %d", b.x.Now())
	}
}

// R5: Tend shows its reading.
func TestTendReadings(t *testing.T) {
	for _, reading := range allReadings {
		b := stands(t, home(t), config())
		b.tend(reading)
		if want := max(10, min(reading, lastTime)); b.x.Now() != want {
			t.Fatalf("Tend(%d): the time is %d, want %d", reading, b.x.Now(), want)
		}
	}
}

// R4: a request that changes something is one commit; one that changes nothing does no act.
func TestOneCommit(t *testing.T) {
	base, requests := stage(t)
	form, _ := formOf(requests["fresh"].Body)
	requests["revoked"] = revoking("app", form["refresh_token"])
	for shown, m := range requests {
		b := stands(t, base, config())
		generation := b.x.Pager().Generation()
		b.serve(m, 120, secret(50))
		want := map[string]int{"fresh": 1, "late": 1, "expired": 1, "code": 1, "used code": 1, "revoked": 1}[shown]
		if n := b.x.Pager().Generation() - generation; n != want || (b.d.Acts() > 0) != (want > 0) {
			t.Fatalf("%s: %d commits, %d acts", shown, n, b.d.Acts())
		}
	}
}
