package endpoint_test

import (
	"fmt"
	"math/rand"
	"testing"

	"latchkey/access"
	"latchkey/api"
	"latchkey/check"
	"latchkey/client"
	"latchkey/code"
	"latchkey/disk"
	"latchkey/endpoint"
	"latchkey/grant"
	"latchkey/table"
)

// press is an endpoint over a table on a disk of just Room(families, generations) blocks, on which all records are as great as they may be.
type press struct {
	t                     *testing.T
	r                     *rand.Rand
	d                     *disk.Disk
	x                     *table.Table
	e                     *endpoint.Endpoint
	families, generations int
	secrets               int
	tokens                []string
	codes                 map[string]int
	counts                map[string]int
}

// eight is a scope of eight names whose text has 60 bytes.
func eight() []string {
	return names("a", "b", "c", "d", "e", many(16, "f"), many(16, "g"), many(16, "h"))
}

func greatest(n int) api.Client {
	name := fmt.Sprint("c", n)
	return api.Client{Name: name + many(16-len(name), "_"), Scope: eight(), Idle: lastTime, Absolute: lastTime, Grace: 3, Life: 500}
}

func newPress(t *testing.T, families, generations, seed int) *press {
	t.Helper()
	d, errno := disk.New(grant.Room(families, generations))
	wantErrno(t, "New", errno, api.OK)
	wantErrno(t, "Format", table.Format(d), api.OK)
	p := &press{t: t, r: rand.New(rand.NewSource(int64(seed))), d: d, x: opened(t, d), families: families, generations: generations, codes: map[string]int{}, counts: map[string]int{}}
	for n := range 8 {
		wantErrno(t, "Register", client.Register(p.x, greatest(n), many(64, "p"), 100), api.OK)
		wantErrno(t, "Renew", client.Renew(p.x, greatest(n).Name, many(64, "q"), most, 100), api.OK)
	}
	for n := range 4 {
		_, errno := access.NewKey(p.x, secret(n), most, 100)
		wantErrno(t, "NewKey", errno, api.OK)
	}
	p.e = endpointOf(t, p.x, api.Config{Issuer: many(16, "i"), Retain: 5, Rate: 1, Burst: 1 << 20})
	return p
}

func (p *press) secret() string {
	p.secrets++
	return secret(p.secrets)
}

// asks is a request, for which there is always room.
func (p *press) asks(name string, m api.Message, now int) api.Answer {
	p.t.Helper()
	a := p.e.Serve(with(m, "Authorization", basic(name, many(64, "q"))), now, p.secret())
	if a.Status >= 401 {
		p.t.Fatalf("%d families of %d generations: %s: %v", p.families, p.generations, whatOf(m), a)
	}
	if pages := len(p.x.Pager().Reached()); pages+p.x.Pager().Free() != p.d.Size()-2 {
		p.t.Fatalf("%s: %d pages are reached, %d free", whatOf(m), pages, p.x.Pager().Free())
	}
	if text := memberOf(a.Body, "refresh_token"); a.Status == 200 && m.Path == "/token" {
		p.tokens = append(p.tokens, text)
		p.counts[m.Path]++
	}
	return a
}

func (p *press) ids() []int {
	l, errno := p.x.Ending(most, most)
	wantErrno(p.t, "Ending", errno, api.OK)
	return l
}

// step is something at random, most often a request.
func (p *press) step(now int) {
	p.t.Helper()
	name := greatest(p.r.Intn(8)).Name
	switch n := p.r.Intn(20); {
	case n < 4:
		text, errno := code.Approve(p.x, name, fmt.Sprintf("subject-%08d", p.r.Intn(1+p.families)), eight(), challengeOf(verifier(1)), drawn(p.r, 50, most, 5), now, p.secret())
		if errno != api.OK && errno != api.ErrCodeMany {
			p.t.Fatalf("Approve: %d", errno)
		}
		if errno == api.OK {
			p.codes[text]++
			if len(p.ids()) < p.families {
				p.asks(name, post("/token", "grant_type", "authorization_code", "code", text, "code_verifier", verifier(1)), now)
			}
		}
	case n < 15 && len(p.tokens) > 0:
		text := p.tokens[max(0, len(p.tokens)-1-p.r.Intn(5))]
		i, errno := grant.Introspect(p.x, text, now)
		wantErrno(p.t, "Introspect", errno, api.OK)
		if i.Active && i.Gen < p.generations {
			p.asks(i.Client, post("/token", "grant_type", "refresh_token", "refresh_token", text), now)
		} else if !i.Active {
			p.asks(name, post("/token", "grant_type", "refresh_token", "refresh_token", text), now)
		}
	case n < 17 && len(p.tokens) > 0:
		text := drawn(p.r, p.tokens...)
		if i, _ := grant.Introspect(p.x, text, now); i.Active {
			p.asks(i.Client, post("/revoke", "token", text), now)
		}
	case n < 19:
		if _, errno := p.e.Tend(now); errno != api.OK {
			p.t.Fatalf("Tend: %d", errno)
		}
	default:
		p.asks(name, post("/introspect", "token", "x"), now)
	}
}

// P7, P8: on a disk of Room(F, T) blocks there is always room for what is asked, as long as there are at most F families of at most T generations; and nothing leaks.
func TestRoomIsEnough(t *testing.T) {
	t.Parallel()
	for n, size := range [][2]int{{0, 0}, {1, 1}, {1, 30}, {4, 10}, {20, 2}} {
		t.Run(fmt.Sprint(size), func(t *testing.T) {
			t.Parallel()
			p := newPress(t, size[0], size[1], n)
			for step := range 300 {
				p.step(100 + step)
			}
			findings, errno := check.Image(p.d.Blocks())
			if len(findings) > 0 || errno != api.OK {
				t.Fatalf("%v, %d", findings, errno)
			}
			if p.counts["/token"] < 2*min(size[0], 1) {
				t.Errorf("the test is wrong: %v", p.counts)
			}
		})
	}
}

// P7: an access token, of whatever client, is short enough to be shown: in a form, and on a line.
func TestGreatestAnswer(t *testing.T) {
	p := newPress(t, 1, 2, 1)
	i, errno := grant.Issue(p.x, greatest(1).Name, many(16, "s"), nil, 100, p.secret())
	wantErrno(t, "Issue", errno, api.OK)
	a := p.asks(greatest(1).Name, post("/token", "grant_type", "refresh_token", "refresh_token", i.Token), 100)
	signed := memberOf(a.Body, "access_token")
	m := with(post("/introspect", "token", signed), "Authorization", basic(greatest(2).Name, many(64, "q")))
	out := p.e.Connect().Feed(bytesOf(t, m), 101, nil)
	if want := lined(told(greatest(1).Name, 600, 1, 100, "a b c d e "+many(16, "f")+" "+many(16, "g")+" "+many(16, "h"), many(16, "s"))); out != want {
		t.Fatalf("%q, want %q", out, want)
	}
}
