package endpoint_test

import (
	"fmt"
	"slices"
	"testing"

	"latchkey/api"
)

// A choice is one thing that a request may have at a step, and the answer that this asks for (of the status 0: none).
type choice struct {
	name string
	want api.Answer
}

// A mix is a choice for each of the steps.
type mix struct {
	path, method, kind, form, asker, pace, body choice
}

// first is the answer of the first step that has one.
func (x mix) first() api.Answer {
	for _, c := range []choice{x.path, x.method, x.kind, x.form, x.asker, x.pace} {
		if c.want.Status != 0 {
			return c.want
		}
	}
	return x.body.want
}

// message is the request.
func (x mix) message() api.Message {
	m := api.Message{Method: x.method.name, Path: x.path.name, Body: x.body.name}
	add := func(name, value string) { m.Headers = append(m.Headers, api.Field{Name: name, Value: value}) }
	field := func(s string) {
		if m.Body != "" {
			m.Body += "&"
		}
		m.Body += s
	}
	switch x.kind.name {
	case "none":
	case "two":
		add("Content-Type", formType)
		add("content-type", formType)
	case "two unlike ones":
		add("Content-Type", formType)
		add("Content-Type", "text/plain")
	default:
		add("Content-Type", x.kind.name)
	}
	add("Accept", "*/*")
	switch x.asker.name {
	case "header":
		add("Authorization", basic("app", word(1)))
	case "form":
		field("client_id=app&client_secret=" + word(1))
	case "wrong header":
		add("authorization", "Bearer x")
	case "wrong secret":
		add("Authorization", basic("app", word(2)))
	case "wrong secret in the form":
		field("client_id=app&client_secret=" + word(2))
	case "a secret alone":
		field("client_secret=" + word(1))
	case "two headers":
		add("Authorization", basic("app", word(1)))
		add("AUTHORIZATION", basic("app", word(1)))
	case "header and name":
		add("Authorization", basic("app", word(1)))
		field("client_id=app")
	case "wrong header and secret":
		add("Authorization", "x")
		field("client_secret=")
	}
	switch x.form.name {
	case "refused":
		field("x=%")
	case "twice":
		field("y=1&y=2")
	case "too many":
		for n := range 33 {
			field(fmt.Sprint("z", n))
		}
	}
	return m
}

func choices() (paths, methods, kinds, forms, askers []choice) {
	paths = []choice{{name: "/token"}, {name: "/revoke"}, {name: "/introspect"}, {"/other", notThere}, {"/token/", notThere}}
	methods = []choice{{name: "POST"}, {"GET", notSo}, {"post", notSo}}
	kinds = []choice{{name: formType}, {"none", notThat}, {"two", notThat}, {"two unlike ones", notThat}, {"application/json", notThat}}
	forms = []choice{{name: "right"}, {"refused", badRequest}, {"twice", badRequest}, {"too many", badRequest}}
	askers = []choice{
		{name: "header"}, {name: "form"}, {"wrong header", nobody}, {"wrong secret", nobody}, {"wrong secret in the form", nobody}, {"nobody", nobody}, {"a secret alone", nobody},
		{"two headers", badRequest}, {"header and name", badRequest}, {"wrong header and secret", badRequest},
	}
	return paths, methods, kinds, forms, askers
}

// bodies are what a request may ask of a path, with the answers of step 8.
func bodies(path, text string) []choice {
	if path == "/token" {
		return []choice{
			{"", badRequest}, {"grant_type=x", badType}, {"grant_type=refresh_token", badRequest}, {"grant_type=refresh_token&refresh_token=x&scope=A", badScope},
			{"grant_type=refresh_token&refresh_token=x", badGrant}, {"grant_type=authorization_code&code=" + text + "&code_verifier=x", badGrant}, {"grant_type=refresh_token&refresh_token=" + text + "&scope=admin", badScope},
		}
	}
	want := worthless
	if path == "/revoke" {
		want = done
	}
	return []choice{{"", badRequest}, {"tokens=x", badRequest}, {"token=x", want}, {"token=", want}}
}

// E2: of all faults together the first one answers, and nothing is done.
func TestOrder(t *testing.T) {
	b := stands(t, home(t), config())
	text := b.issue("app", "ann", nil, 20, 1).Token
	base := b.d
	paths, methods, kinds, forms, askers := choices()
	for _, pace := range []choice{{name: "in time"}, {"too often", hasty("7")}} {
		t.Run(pace.name, func(t *testing.T) {
			t.Parallel()
			b := stands(t, base, config())
			n := 0
			for _, path := range paths {
				for _, body := range bodies(path.name, text) {
					for _, method := range methods {
						for _, kind := range kinds {
							for _, form := range forms {
								for _, asker := range askers {
									x := mix{path, method, kind, form, asker, pace, body}
									b.limited(x)
									b.same(x.first(), x.message(), 20, secret(9))
									n++
								}
							}
						}
					}
				}
			}
			if n < 10000 {
				t.Fatalf("the test is wrong: %d requests", n)
			}
		})
	}
}

// limited lets a mix come in time, or too often.
func (b *both) limited(x mix) {
	b.t.Helper()
	b.c.Rate, b.c.Burst = 1, 1<<20
	if x.pace.want.Status != 0 {
		b.c.Rate, b.c.Burst = 0.15, 1
	}
	b.renew()
	if x.pace.want.Status != 0 {
		b.same(worthless, asking("app", "x"), 20, "")
	}
}

// E2, step 1: there are three paths; nothing else is one of them.
func TestPaths(t *testing.T) {
	b := stands(t, home(t), config())
	for _, path := range []string{
		"", "/", "token", "/Token", "/TOKEN", "/token/", "//token", "/token ", " /token", "/token?x=1", "/token#", "/tokens", "/toke", "/%74oken", "/token\x00", "/introspect/", "/introspec", "/revoke/x", "/revok",
		"*", "/.well-known", "http://home/token", many(200, "/"), many(5000, "/token"), "\xff",
	} {
		for _, method := range []string{"POST", "GET", ""} {
			m := by("app", post(path, "token", "x"))
			m.Method = method
			b.same(notThere, m, 20, "")
			b.same(notThere, api.Message{Method: method, Path: path}, 20, "")
		}
	}
	b.same(badRequest, by("app", post("/token")), 20, "")
	b.same(done, by("app", post("/revoke", "token", "x")), 20, "")
	b.same(worthless, by("app", post("/introspect", "token", "x")), 20, "")
}

// E2, step 2: there is one method.
func TestMethods(t *testing.T) {
	b := stands(t, home(t), config())
	for _, path := range allPaths {
		for _, method := range []string{"", "GET", "PUT", "HEAD", "OPTIONS", "PATCH", "DELETE", "post", "Post", "POSTS", "POS", "POST ", " POST", "P\x00ST", many(5000, "POST")} {
			m := by("app", post(path, "token", "x"))
			m.Method = method
			b.same(notSo, m, 20, "")
			b.same(notSo, api.Message{Method: method, Path: path}, 20, "")
		}
	}
}

// E2, step 3: there is just one header Content-Type, whatever the case of its letters, and it has just that value.
func TestContentTypes(t *testing.T) {
	b := stands(t, home(t), config())
	of := func(l ...api.Field) api.Message {
		m := by("app", post("/introspect", "token", "x"))
		m.Headers = append(l, m.Headers[1])
		return m
	}
	field := func(name, value string) api.Field { return api.Field{Name: name, Value: value} }
	for _, name := range []string{"Content-Type", "content-type", "CONTENT-TYPE", "cONTENT-tYPE"} {
		b.same(worthless, of(field(name, formType)), 20, "")
		b.same(worthless, of(field("X", "y"), field(name, formType), field("Content-Typ", "z"), field("Content-Types", "z"), field("", "")), 20, "")
		b.same(notThat, of(field(name, formType), field("Content-Type", formType)), 20, "")
		b.same(notThat, of(field("Content-Type", "x"), field(name, formType)), 20, "")
		b.same(notThat, of(field(name, formType), field("Content-Type", "")), 20, "")
		b.same(notThat, of(field(name, formType), field(name, formType), field(name, formType)), 20, "")
	}
	for _, name := range []string{"Content_Type", "Content-Type ", "ContentType", "", "Content-Length", "Content-Typé", "Content\rType", "content\x0dtype"} {
		b.same(notThat, of(field(name, formType)), 20, "")
	}
	for _, value := range []string{
		"", "x", "application/json", formType + " ", " " + formType, formType + ";", formType + "; charset=utf-8", "Application/x-www-form-urlencoded", "APPLICATION/X-WWW-FORM-URLENCODED",
		formType[1:], formType[:len(formType)-1], formType + "\x00", formType + "," + formType, "multipart/form-data", many(1000, formType),
	} {
		b.same(notThat, of(field("Content-Type", value)), 20, "")
	}
	b.same(notThat, of(), 20, "")
}

// E2, step 4: the body is a form in which each name stands once.
func TestForms(t *testing.T) {
	b := stands(t, home(t), config())
	send := func(want api.Answer, body string) {
		t.Helper()
		m := by("app", post("/introspect"))
		m.Body = body
		b.same(want, m, 20, "")
	}
	full := "token=x"
	for n := range 31 {
		full += fmt.Sprint("&a", n)
	}
	for _, body := range []string{
		"token=x", "token", "token=", "%74oken=x", "token=x&Token=y&TOKEN=z", "token=x&a=1&b=1", "token=x&toke=y&tokens=z", "token=x&=1", "=&token=x", "token=%00%ff", "token=x+y", "token=x&%74o%6Be=1", full,
		"token=" + many(3990, "x"), "token=" + many(100000, "x"),
	} {
		send(worthless, body)
	}
	for _, body := range []string{
		"token=x&token=x", "token=x&token=y", "token=x&%74oken=y", "token=x&token", "token=x&a=1&a=1", "a&a&token=x", "=1&=2&token=x", "=&=&token=x", "a+b=1&a%20b=2&token=x", "b=1&token=x&c=1&b=2",
		"token=x&", "&token=x", "token=x&&a=1", "token=%", "token=%4", "token=%g1", "token=a=b", "token=a b", "token=\x00", "token=\n", "token=é", "token=\x7f", "%=token&token=x", full + "&b", full + "&token",
		many(100000, "&"), "token=x&a=%4",
	} {
		send(badRequest, body)
	}
	send(badRequest, "")
	send(badRequest, "tokens=x")
}

// E2, step 5: two headers Authorization, or one and a field besides, whatever they say.
func TestToldTwice(t *testing.T) {
	b := stands(t, home(t), config())
	right := basic("app", word(1))
	values := []string{right, basic("web", word(2)), basic("app", word(2)), "", "x", "Bearer x"}
	heads := []string{"Authorization", "authorization", "AUTHORIZATION"}
	for _, path := range allPaths {
		for _, one := range values {
			for n, two := range values {
				m := with(with(post(path, "token", "x"), heads[n%3], one), heads[(n+1)%3], two)
				b.same(badRequest, m, 20, "")
				b.same(badRequest, with(m, "Authorization", right), 20, "")
			}
			for _, fields := range [][]string{{"client_id", "app"}, {"client_id", ""}, {"client_secret", word(1)}, {"client_secret", ""}, {"client_id", "app", "client_secret", word(1)}, {"client_id", "tv"}} {
				b.same(badRequest, with(post(path, append(fields, "token", "x")...), "Authorization", one), 20, "")
			}
		}
		for _, name := range []string{"client", "client_ids", "Client_id", "CLIENT_SECRET", "client-id", "clientid", "client_id "} {
			want := map[string]api.Answer{"/token": badRequest, "/revoke": done, "/introspect": worthless}[path]
			b.same(want, by("app", post(path, name, "app", "token", "x")), 20, "")
		}
	}
	// Other headers are nobody's business.
	m := by("app", post("/introspect", "token", "x"))
	for _, name := range []string{"Authorizatio", "Authorizations", "Proxy-Authorization", "", "X"} {
		m = with(m, name, right)
	}
	b.same(worthless, m, 20, "")
	m.Headers = slices.Delete(m.Headers, 1, 2)
	b.same(nobody, m, 20, "")
}
