package endpoint_test

import (
	"math"
	"testing"

	"latchkey/api"
	"latchkey/endpoint"
	"latchkey/table"
)

// wantNew is what New answers to a config. (It asks nothing of the table.)
func wantNew(t *testing.T, c api.Config, want api.Errno) {
	t.Helper()
	e, errno := endpoint.New(&table.Table{}, c)
	if errno != want || (e != nil) != (want == api.OK) {
		t.Fatalf("New(%.100q, %d, %g, %g): %v, %d; want %d", c.Issuer, c.Retain, c.Rate, c.Burst, e, errno, want)
	}
}

func issuers() (right, wrong []string) {
	right = []string{"a", "z", "0", "9", "-", "_", ".", "home", "a-b_c.9", many(16, "a"), many(16, ".")}
	wrong = []string{"", "Home", "HOME", "a b", " a", "a ", `a"`, "a\\", "\x00", "\xff", "é", many(17, "a"), many(5000, "b"), "a:b", "https://home"}
	for b := range 256 {
		if b >= 'a' && b <= 'z' || b >= '0' && b <= '9' || b == '-' || b == '_' || b == '.' {
			right = append(right, "a"+string([]byte{byte(b)}))
		} else {
			wrong = append(wrong, "a"+string([]byte{byte(b)}))
		}
	}
	return right, wrong
}

func amounts() (right, wrong []float32) {
	inf := float32(math.Inf(1))
	nan := float32(math.NaN())
	return []float32{math.SmallestNonzeroFloat32, 1e-9, 0.5, 1, 50, 1 << 24, 1e30, math.MaxFloat32}, []float32{-1, -math.SmallestNonzeroFloat32, -math.MaxFloat32, inf, -inf, nan, -nan}
}

// E1: the issuer is a name.
func TestNewIssuers(t *testing.T) {
	right, wrong := issuers()
	for _, s := range right {
		wantNew(t, api.Config{Issuer: s, Retain: 100, Rate: 1, Burst: 1}, api.OK)
	}
	for _, s := range wrong {
		wantNew(t, api.Config{Issuer: s, Retain: 100, Rate: 1, Burst: 1}, api.ErrEndpointConfig)
	}
}

// E1: Retain is a time.
func TestNewRetains(t *testing.T) {
	for retain, want := range map[int]api.Errno{
		0: api.OK, 1: api.OK, 100: api.OK, lastTime - 1: api.OK, lastTime: api.OK,
		-1: api.ErrEndpointConfig, least: api.ErrEndpointConfig, lastTime + 1: api.ErrEndpointConfig, lastID: api.ErrEndpointConfig, most: api.ErrEndpointConfig,
	} {
		wantNew(t, api.Config{Issuer: "home", Retain: retain, Rate: 1, Burst: 1}, want)
	}
}

// E1: the rate and the burst are such as a limiter takes.
func TestNewAmounts(t *testing.T) {
	right, wrong := amounts()
	for _, a := range right {
		for _, b := range right {
			wantNew(t, api.Config{Issuer: "home", Rate: a, Burst: b}, api.OK)
		}
		wantNew(t, api.Config{Issuer: "home", Rate: 0, Burst: a}, api.OK)
		wantNew(t, api.Config{Issuer: "home", Rate: a, Burst: 0}, api.ErrEndpointConfig)
		for _, b := range wrong {
			wantNew(t, api.Config{Issuer: "home", Rate: a, Burst: b}, api.ErrEndpointConfig)
			wantNew(t, api.Config{Issuer: "home", Rate: b, Burst: a}, api.ErrEndpointConfig)
		}
	}
	for _, a := range wrong {
		for _, b := range wrong {
			wantNew(t, api.Config{Issuer: "home", Rate: a, Burst: b}, api.ErrEndpointConfig)
		}
	}
}

// E1: several things that may not be.
func TestNewSeveral(t *testing.T) {
	wantNew(t, api.Config{}, api.ErrEndpointConfig)
	wantNew(t, api.Config{Issuer: "Home", Retain: -1, Rate: -1, Burst: 0}, api.ErrEndpointConfig)
	wantNew(t, api.Config{Issuer: "home", Retain: -1, Rate: 1, Burst: 0}, api.ErrEndpointConfig)
	wantNew(t, api.Config{Issuer: "", Retain: 0, Rate: 0, Burst: 1}, api.ErrEndpointConfig)
}

// E1: New asks nothing of the table, and changes nothing: not even what somebody has begun, also where it refuses, and on a dead disk.
func TestNewAsksNothing(t *testing.T) {
	d := loaded(t, home(t).Blocks())
	x := opened(t, d)
	wantErrno(t, "PutClient", x.PutClient(publicClient("gone")), api.OK)
	for _, c := range []api.Config{config(), {}} {
		endpoint.New(x, c)
	}
	if _, errno := x.Client("gone"); errno != api.OK || x.Now() != 10 || d.Acts() > 0 {
		t.Fatalf("%d, at %d, %d acts", errno, x.Now(), d.Acts())
	}
	kill(t, d)
	e, errno := endpoint.New(x, config())
	if e == nil || errno != api.OK {
		t.Fatalf("New of a dead disk: %d", errno)
	}
	wantAnswer(t, "it is dead", e.Serve(asking("app", "x"), 20, ""), later)
}

// E1: each endpoint has let nobody in, whoever else was let in by another one over the same table.
func TestNewHasLetNobodyIn(t *testing.T) {
	x := opened(t, home(t))
	c := config()
	c.Rate, c.Burst = 0, 1
	for range 3 {
		e, errno := endpoint.New(x, c)
		wantErrno(t, "New", errno, api.OK)
		wantAnswer(t, "the first time", e.Serve(asking("app", "x"), 20, ""), worthless)
		wantAnswer(t, "the second time", e.Serve(asking("app", "x"), 20, ""), hasty("1099511627776"))
	}
}

// Each issuer has its own tokens, and tells itself to whom it does not know.
func TestNewIssuerIsTold(t *testing.T) {
	b := stands(t, home(t), config())
	text := b.issue("app", "ann", nil, 100, 1).Token
	_, signed := b.gives(refreshing("app", text), 100, secret(2))
	for _, issuer := range []string{"work", "home", many(16, "a"), "-"} {
		c := config()
		c.Issuer = issuer
		other := stands(t, b.d, c)
		other.same(refusing(401, "invalid_client", api.Field{Name: "WWW-Authenticate", Value: `Basic realm="` + issuer + `"`}), post("/token"), 110, "")
		want := worthless
		if issuer == "home" {
			want = said(200, `{"active":true,"client_id":"app","exp":120,"fam":1,"iat":100,"scope":"read write","sub":"ann"}`)
		}
		other.same(want, asking("app", signed), 110, "")
	}
}
