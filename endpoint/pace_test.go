package endpoint_test

import (
	"fmt"
	"math/rand"
	"testing"

	"latchkey/api"
	"latchkey/table"
)

// paced is an endpoint by such a rate and burst.
func paced(t *testing.T, rate, burst float32) *both {
	t.Helper()
	c := config()
	c.Rate, c.Burst = rate, burst
	return stands(t, home(t), c)
}

// E2, step 7: who asks too often is told how long to wait, and is let in then.
func TestPace(t *testing.T) {
	b := paced(t, 0.5, 2)
	ask := asking("app", "x")
	b.same(worthless, ask, 100, "")
	b.same(worthless, ask, 100, "")
	b.same(hasty("2"), ask, 100, "")
	b.same(hasty("1"), ask, 101, "")
	b.same(worthless, ask, 102, "")
	b.same(hasty("2"), ask, 102, "")
	for name, m := range map[string]api.Message{"web": asking("web", "x"), "tv": post("/introspect", "token", "x", "client_id", "tv")} {
		for range 2 {
			b.same(worthless, m, 102, "")
		}
		b.same(hasty("2"), m, 102, "")
		if name == "tv" {
			b.same(hasty("2"), with(post("/introspect", "token", "x"), "Authorization", basic("tv", "")), 102, "") // by whatever way
		}
	}
	b.same(worthless, ask, 1000, "")
	b.same(worthless, ask, 1000, "")
	b.same(hasty("2"), ask, 1000, "") // never more than two at once
}

// E2, step 7: the number of seconds is told by its digits, up to the greatest.
func TestPaceSeconds(t *testing.T) {
	for _, c := range []struct {
		rate, burst float32
		seconds     string
	}{
		{1, 1, "1"}, {2, 1, "1"}, {0.5, 1, "2"}, {0.1, 1, "10"}, {0.01, 1, "100"}, {1e-3, 1, "1000"}, {1.0 / (1 << 20), 1, "1048576"}, {1.0 / (1 << 39), 1, "549755797504"}, {1.0 / (1 << 40), 1, "1099511595008"} /* as float32s these are 2^39 and 2^40 */, {1e-30, 1, "1099511627776"},
		{0, 1, "1099511627776"}, {0, 1.5, "1099511627776"}, {1 << 30, 1, "1"},
	} {
		b := paced(t, c.rate, c.burst)
		b.same(worthless, asking("app", "x"), 20, "")
		for _, path := range allPaths {
			b.same(hasty(c.seconds), by("app", post(path)), 20, "")
		}
	}
	b := paced(t, 1, 0.5) // never enough
	b.same(hasty("1099511627776"), asking("app", "x"), 20, "")
	b.same(hasty("1099511627776"), asking("app", "x"), most, "")
}

// E2, step 7: the cost is 1.
func TestPaceCost(t *testing.T) {
	for burst := range 6 {
		b := paced(t, 0, float32(burst)+0.999)
		for range burst {
			b.same(worthless, asking("app", "x"), 20, "")
		}
		b.same(hasty("1099511627776"), asking("app", "x"), 20, "")
	}
}

// E2, step 7: who is refused ahead of it is not counted; who comes to it is, also if he is refused behind it.
func TestPaceCounts(t *testing.T) {
	b := paced(t, 0, 2)
	for _, m := range []api.Message{
		by("app", post("/other")), {Method: "GET", Path: "/token"}, {Method: "POST", Path: "/token"}, by("app", post("/token", "a", "1", "a", "1")), by("app", post("/token", "client_id", "app")),
		with(post("/token"), "Authorization", basic("app", word(2))), with(post("/token"), "Authorization", "Basic "+standard("app")), post("/token", "client_id", "app"), post("/token", "client_id", "app", "client_secret", "x"), asking("off", "x"),
	} {
		for range 4 {
			if a := b.serve(m, 20, ""); a.Status == 200 || a.Status == 429 {
				t.Fatalf("the test is wrong: %v", a)
			}
		}
	}
	b.same(badRequest, by("app", post("/token")), 20, "")
	b.same(badType, by("app", post("/token", "grant_type", "x")), 20, "")
	b.same(hasty("1099511627776"), by("app", post("/token")), 20, "")
	for range 9 { // nor is who asks too often
		b.same(hasty("1099511627776"), asking("app", "x"), 20, "")
	}
	b.same(worthless, asking("web", "x"), 20, "")
}

// E2, step 7: it is the table's time that counts, which never goes back, and not the reading.
func TestPaceTime(t *testing.T) {
	b := paced(t, 1, 1)
	b.same(worthless, asking("app", "x"), 100, "")
	b.same(hasty("1"), asking("app", "x"), 50, "")
	b.same(hasty("1"), asking("app", "x"), least, "")
	b.same(notThere, post("/"), 101, "") // shows its reading
	b.same(worthless, asking("app", "x"), 0, "")
	b.same(hasty("1"), asking("app", "x"), 101, "")
	b.same(worthless, asking("app", "x"), most, "")
	b.same(hasty("1"), asking("app", "x"), most, "") // by the level that it had then, which fills up no more
	b.same(hasty("1"), asking("app", "x"), 0, "")
	b = paced(t, 1, 1)
	b.do("See", func(x *table.Table) api.Errno {
		x.See(500)
		return api.OK
	})
	b.same(worthless, asking("app", "x"), 100, "")
	b.same(hasty("1"), asking("app", "x"), 499, "")
	b.same(hasty("1"), asking("app", "x"), 500, "")
	b.same(worthless, asking("app", "x"), 501, "")
}

// E2, step 7: rows of askings at random, at many paces.
func TestPaceRows(t *testing.T) {
	t.Parallel()
	for seed, c := range [][2]float32{{1, 1}, {0.5, 3}, {0.3, 2.5}, {0.1, 1}, {3, 2}, {0.7, 10}, {0, 5}} {
		t.Run(fmt.Sprint(c), func(t *testing.T) {
			t.Parallel()
			b, r := paced(t, c[0], c[1]), rand.New(rand.NewSource(int64(seed)))
			statuses := map[int]int{}
			for now := range 400 {
				m := drawn(r, asking("app", "x"), asking("web", "x"), post("/introspect", "client_id", "tv", "token", "x"), post("/introspect", "client_id", "off", "token", "x"), by("app", post("/token")))
				statuses[b.serve(m, now/2-r.Intn(3), "").Status]++
			}
			if statuses[429] < 5 || statuses[200] < 5 {
				t.Errorf("the test is wrong: %v", statuses)
			}
		})
	}
}
