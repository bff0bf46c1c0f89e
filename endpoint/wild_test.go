package endpoint_test

import (
	"fmt"
	"math/rand"
	"testing"

	"latchkey/api"
	"latchkey/endpoint"
	"latchkey/table"
	"latchkey/wire"
)

// Ways: a request that goes wrong inside is caught, and answered: nothing that is right does so, an endpoint over no table does.
func TestCaught(t *testing.T) {
	e, errno := endpoint.New(nil, config())
	wantErrno(t, "New", errno, api.OK)
	for range 2 {
		for _, m := range []api.Message{{}, post("/"), asking("app", "x"), refreshing("app", "x")} {
			wantAnswer(t, whatOf(m), e.Serve(m, 20, secret(1)), wrong)
		}
		feeds(t, e.Connect(), bytesOf(t, asking("app", "x"))+"x\r\n", 20, nil, lined(wrong)+lined(badRequest), true)
	}
}

// wildTexts are such as may come.
func wildTexts() []string {
	return []string{"", " ", "x", "\x00", "\xff\xfe", "é", "%", "%zz", "&", "=", "==", "&&", "a&a", ":", "Basic ", "Basic :", "Basic Og==", "/token", "/introspect", "POST", formType, "token=x", "token=x&client_id=tv", "client_id=tv", basic("app", word(1)), many(5000, "&"), many(5000, "a=1&"), many(70000, "%41")}
}

// R1: all sorts of messages; none panics, and each is answered as the words say.
func TestWildMessages(t *testing.T) {
	b := stands(t, home(t), config())
	b.issue("app", "ann", nil, 100, 1)
	r := rand.New(rand.NewSource(5))
	texts := wildTexts()
	fields := []string{"Content-Type", "content-type", "Authorization", "AUTHORIZATION", "", "X", "\xff"}
	for range 4000 {
		m := api.Message{Method: drawn(r, "POST", "POST", "POST", drawn(r, texts...)), Path: drawn(r, "/token", "/revoke", "/introspect", drawn(r, texts...)), Body: drawn(r, texts...)}
		if r.Intn(4) > 0 {
			m.Headers = append(m.Headers, api.Field{Name: "Content-Type", Value: formType})
		}
		for range r.Intn(4) {
			m.Headers = append(m.Headers, api.Field{Name: drawn(r, fields...), Value: drawn(r, texts...)})
		}
		b.serve(m, drawn(r, append(allReadings[:8:8], 20, 50)...), drawn(r, texts...))
	}
	b.look("behind all")
}

// R1: very many headers.
func TestManyHeaders(t *testing.T) {
	b := stands(t, home(t), config())
	m := asking("app", "x")
	for n := range 20000 {
		m.Headers = append(m.Headers, api.Field{Name: fmt.Sprint("X", n), Value: "Authorization"})
	}
	b.same(worthless, m, 20, "")
	for range 20000 {
		m.Headers = append(m.Headers, api.Field{Name: "Authorization", Value: "x"})
	}
	b.same(badRequest, m, 20, "")
}

// R1: all readings, the least and the greatest ones.
func TestWildReadings(t *testing.T) {
	t.Parallel()
	base, requests := stage(t)
	for _, m := range requests {
		for _, now := range append(allReadings, -lastID, lastNumber, most-1) {
			b := stands(t, base, config())
			b.serve(m, now, secret(50))
			b.serve(m, now, secret(51))
			b.tend(now)
		}
	}
}

// R1: bytes at random on a line, which are most often no request.
func TestWildBytes(t *testing.T) {
	b := stands(t, home(t), config())
	r := rand.New(rand.NewSource(6))
	right := bytesOf(t, someRequests()...)
	for range 1500 {
		s := []byte(right)
		for range 1 + r.Intn(3) {
			switch at := r.Intn(len(s)); r.Intn(3) {
			case 0:
				s[at] = byte(r.Intn(256))
			case 1:
				s = append(s[:at], s[at+1:]...)
			default:
				s = append(s[:at:at], append([]byte{byte(r.Intn(256))}, s[at:]...)...)
			}
		}
		b.bytes(string(s), r.Intn(len(s)))
	}
}

// bytes feeds a text in two pieces, and holds what is said against the model.
func (b *both) bytes(s string, cut int) {
	b.t.Helper()
	messages, errno := wire.NewReader().Feed(s)
	want := b.linedAll(20, nil, messages...)
	if errno != api.OK {
		want += lined(badRequest)
	}
	l := b.e.Connect()
	out := l.Feed(s[:cut], 20, nil)
	out += l.Feed(s[cut:], 20, nil)
	if out != want || l.Over() != (errno != api.OK) {
		b.t.Fatalf("%q, cut at %d: %q, %v; want %q", s, cut, out, l.Over(), want)
	}
	b.alike("Feed")
}

// R1: tables whose records do not belong together, on which somebody has put them: each call ends with an answer, none panics.
func TestWildTables(t *testing.T) {
	base, requests := stage(t)
	form, _ := formOf(requests["fresh"].Body)
	requests["revoked"], requests["told"] = revoking("app", form["refresh_token"]), asking("web", form["refresh_token"])
	for n, put := range []func(x *table.Table){
		func(x *table.Table) {
			for n := range 12 {
				x.PutKey(api.Key{Number: 10 + n, Secret: secret(n), From: 500, Until: lastTime})
			}
		},
		func(x *table.Table) {
			x.PutChain(api.Chain{Base: 5, Next: 99, BaseHash: digestOf("a"), NextHash: digestOf("b")})
		},
		func(x *table.Table) {
			x.PutChain(api.Chain{Base: lastID, Next: lastID + 1, BaseHash: digestOf("a"), NextHash: digestOf("b")})
		},
		func(x *table.Table) {
			l, _ := x.Ending(most, most)
			for _, id := range l {
				f, _ := x.Family(id)
				f.Gen, f.Token, f.Client = 1<<30, 99, "gone"
				x.PutFamily(f)
			}
		},
		func(x *table.Table) {
			l, _ := x.Ending(most, most)
			for _, id := range l {
				f, _ := x.Family(id)
				f.Used, f.Created, f.Subject = 900, 900, many(16, "z")
				x.PutFamily(f)
			}
		},
		func(x *table.Table) {
			l, _ := x.Ending(most, most)
			for _, id := range l {
				k, _ := x.Tokens(id)
				x.Remove(id)
				for _, k := range k {
					x.PutToken(k)
				}
			}
		},
		func(x *table.Table) {
			l, _ := x.Codes()
			for _, k := range l {
				k.State, k.Family, k.Client = api.CodeSpent, lastID, "app"
				x.PutCode(k)
			}
		},
	} {
		for shown, m := range requests {
			b := stands(t, base, config())
			b.do("what is put", func(x *table.Table) api.Errno {
				put(x)
				return x.Commit()
			})
			for _, now := range []int{least, 120, 600, most} {
				if a := b.serve(m, now, secret(50)); reasons[a.Status] == "" {
					t.Fatalf("%d: %s: %v", n, shown, a)
				}
			}
			b.tend(most)
		}
	}
}

// FuzzServe holds any request against the model.
func FuzzServe(f *testing.F) {
	f.Add("POST", "/token", "Content-Type", formType, "Authorization", basic("app", word(1)), "grant_type=refresh_token&refresh_token=x", 20, secret(1))
	f.Add("POST", "/introspect", "content-type", formType, "X", "", "token=x&client_id=tv", -1, "")
	f.Fuzz(func(t *testing.T, method, path, name, value, other, said, body string, now int, minted string) {
		b := stands(t, home(t), config())
		b.issue("app", "ann", nil, 100, 1)
		b.serve(api.Message{Method: method, Path: path, Headers: []api.Field{{Name: name, Value: value}, {Name: other, Value: said}}, Body: body}, now, minted)
	})
}

// FuzzFeed holds any bytes, cut anywhere, against the model.
func FuzzFeed(f *testing.F) {
	f.Add("POST /introspect HTTP/1.1\r\nContent-Type: "+formType+"\r\nContent-Length: 20\r\n\r\ntoken=x&client_id=tvx\r\n", 40)
	f.Fuzz(func(t *testing.T, s string, cut int) {
		b := stands(t, home(t), config())
		b.bytes(s, min(max(cut, 0), len(s)))
	})
}
