package endpoint_test

import (
	"fmt"
	"testing"

	"latchkey/api"
	"latchkey/disk"
	"latchkey/table"
)

// A scene is what a request at /token meets.
type scene struct {
	keyless bool
	shown   string // what is shown
	scope   string
	secret  string
	store   string
}

// answer is the first that E3 says of it.
func (s scene) answer() api.Answer {
	code := s.shown == "code" || s.shown == "used code" || s.shown == "old code" || s.shown == "code of another"
	ends := s.shown == "late" || s.shown == "expired" || s.shown == "used code"
	switch {
	case s.scope == "A" && !code:
		return badScope
	case s.keyless:
		return later
	case len(s.secret) != 24:
		return wrong
	case ends && s.store != "roomy":
		return later
	case ends, s.shown == "none", s.shown == "of another", s.shown == "ended", s.shown == "old code", s.shown == "code of another":
		return badGrant
	case s.scope == "admin" && !code:
		return badScope
	case s.shown != "again" && s.store != "roomy":
		return later
	}
	return done // whatever is given
}

// stage is where scenes are played: what stands on a disk at 120, and what is shown by its name.
func stage(t *testing.T) (*disk.Disk, map[string]api.Message) {
	t.Helper()
	b := stands(t, home(t), config())
	texts := map[string]string{"none": "x"}
	issue := func(shown, name string, now, n int) {
		texts[shown] = b.issue(name, "s"+fmt.Sprint(n), nil, now, n).Token
	}
	b.do("See", func(x *table.Table) api.Errno {
		x.See(70)
		return api.OK
	})
	issue("expired", "app", 70, 1)
	issue("late", "app", 80, 2)
	b.gives(refreshing("app", texts["late"]), 100, secret(3))
	issue("ended", "app", 100, 4)
	b.wants(done, revoking("app", texts["ended"]), 100, "")
	issue("fresh", "app", 100, 5)
	issue("of another", "web", 100, 6)
	issue("again", "app", 100, 7)
	texts["code"] = b.approve("app", "ann", 30, 100, 20)
	texts["old code"] = b.approve("app", "ann", 15, 100, 21)
	texts["used code"] = b.approve("app", "bob", 30, 100, 22)
	texts["code of another"] = b.approve("web", "bob", 30, 100, 23)
	b.gives(redeeming("app", texts["used code"], verifier(22)), 110, secret(24))
	b.gives(refreshing("app", texts["again"]), 115, secret(8))
	requests := map[string]api.Message{}
	for shown, text := range texts {
		requests[shown] = post("/token", "client_id", "app", "client_secret", word(1), "grant_type", "refresh_token", "refresh_token", text)
	}
	for n, shown := range []string{"code", "old code", "used code", "code of another"} {
		requests[shown] = post("/token", "client_id", "app", "client_secret", word(1), "grant_type", "authorization_code", "code", texts[shown], "code_verifier", verifier(20+n))
	}
	return b.d, requests
}

// E3: of all that may be wrong together the first one answers; what is refused but ends nothing does no act.
func TestLadder(t *testing.T) {
	t.Parallel()
	d, requests := stage(t)
	stores := map[string]*disk.Disk{"roomy": d, "full": tight(t, d, 0), "worn": aged(t, d, worn)}
	counts := map[int]int{}
	for shown, m := range requests {
		for store, d := range stores {
			for _, scope := range []string{"", "read", "admin", "A"} {
				for _, minted := range []string{secret(50), "", many(25, "s")} {
					for _, keyless := range []bool{false, true} {
						s := scene{keyless, shown, scope, minted, store}
						b := stands(t, d, config())
						now := 120
						if keyless { // none signs at the end of time
							now = lastTime
						}
						asked := m
						if scope != "" {
							asked.Body += "&scope=" + scope
						}
						counts[b.plays(s, asked, now)]++
					}
				}
			}
		}
	}
	for _, status := range []int{200, 400, 500, 503} {
		if counts[status] < 10 {
			t.Errorf("the test is wrong: %v", counts)
		}
	}
}

// plays is that a scene is answered as it must be.
func (b *both) plays(s scene, m api.Message, now int) int {
	b.t.Helper()
	want := s.answer()
	a := b.serve(m, now, s.secret)
	if a.Status != want.Status || want.Status != 200 && !sameAnswer(a, want) {
		b.t.Fatalf("%+v: %v, want %v", s, a, want)
	}
	ends := s.store == "roomy" && (s.shown == "late" || s.shown == "expired" || s.shown == "used code")
	if acts := b.d.Acts(); acts > 0 && a.Status != 200 && !ends {
		b.t.Fatalf("%+v: %d acts", s, acts)
	}
	return a.Status
}
