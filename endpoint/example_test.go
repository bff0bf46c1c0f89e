package endpoint_test

import (
	"testing"

	"latchkey/access"
	"latchkey/api"
	"latchkey/client"
	"latchkey/disk"
	"latchkey/endpoint"
	"latchkey/grant"
	"latchkey/table"
)

// exampleTable has the chapter's client.
func exampleTable(t *testing.T) *table.Table {
	t.Helper()
	d, errno := disk.New(64)
	wantErrno(t, "New", errno, api.OK)
	wantErrno(t, "Format", table.Format(d), api.OK)
	x := opened(t, d)
	wantErrno(t, "Register", client.Register(x, someClient("app"), many(16, "s"), 10), api.OK)
	return x
}

func wantAnswer(t *testing.T, what string, got, want api.Answer) {
	t.Helper()
	if !sameAnswer(got, want) {
		t.Fatalf("%s: %v, want %v", what, got, want)
	}
}

const exampleAuth = "Basic YXBwOnNzc3Nzc3Nzc3Nzc3Nzc3M="

// example is a request of the chapter: with its header, if by says so.
func example(path, body string, by bool) api.Message {
	m := post(path)
	m.Body = body
	if by {
		m = with(m, "Authorization", exampleAuth)
	}
	return m
}

// The chapter's example 1.
func TestExampleRefused(t *testing.T) {
	e, errno := endpoint.New(exampleTable(t), config())
	wantErrno(t, "New", errno, api.OK)
	wantAnswer(t, "GET", e.Serve(api.Message{Method: "GET", Path: "/token"}, 20, ""), notSo)
	wantAnswer(t, "another path", e.Serve(post("/"), 20, ""), notThere)
	wantAnswer(t, "no Content-Type", e.Serve(api.Message{Method: "POST", Path: "/token"}, 20, ""), notThat)
	wantAnswer(t, "a name twice", e.Serve(example("/token", "a=1&a=2", false), 20, ""), badRequest)
	a := e.Serve(example("/token", "grant_type=x", false), 20, "")
	wantAnswer(t, "nobody", a, nobody)
	if a.Body != `{"error":"invalid_client"}` || a.Headers[2] != (api.Field{Name: "WWW-Authenticate", Value: `Basic realm="home"`}) {
		t.Fatalf("%v", a)
	}
}

// The chapter's example 2.
func TestExampleGrants(t *testing.T) {
	x := exampleTable(t)
	e, errno := endpoint.New(x, config())
	wantErrno(t, "New", errno, api.OK)
	wantAnswer(t, "another grant", e.Serve(example("/token", "grant_type=x", true), 20, ""), badType)
	m := example("/token", "grant_type=refresh_token&refresh_token=x", true)
	wantAnswer(t, "no key", e.Serve(m, 20, secret(1)), later)
	_, errno = access.NewKey(x, secret(900), 30, 20)
	wantErrno(t, "NewKey", errno, api.OK)
	wantAnswer(t, "no token", e.Serve(m, 20, secret(1)), badGrant)
	wantAnswer(t, "twice who asks", e.Serve(example("/token", "client_id=app", true), 20, ""), badRequest)
}

// The chapter's example 3.
func TestExampleRevoke(t *testing.T) {
	e, errno := endpoint.New(exampleTable(t), config())
	wantErrno(t, "New", errno, api.OK)
	wantAnswer(t, "revoke", e.Serve(example("/revoke", "token=x", true), 20, ""), api.Answer{Status: 200, Headers: []api.Field{{Name: "Cache-Control", Value: "no-store"}}})
	wantAnswer(t, "introspect", e.Serve(example("/introspect", "token=x", true), 20, ""), said(200, `{"active":false}`))
}

// The chapter's example 4.
func TestExampleLine(t *testing.T) {
	e, errno := endpoint.New(exampleTable(t), config())
	wantErrno(t, "New", errno, api.OK)
	l := e.Connect()
	want := "HTTP/1.1 400 Bad Request\r\nCache-Control: no-store\r\nContent-Type: application/json\r\nContent-Length: 27\r\n\r\n" + `{"error":"invalid_request"}`
	if out := l.Feed("x\r\n", 20, nil); out != want || !l.Over() {
		t.Fatalf("%q, %v", out, l.Over())
	}
	if out := l.Feed("x\r\n", 20, nil); out != "" || !l.Over() {
		t.Fatalf("%q, %v", out, l.Over())
	}
}

// The document's example 1: a token shown again within its grace gives the very same next one, later it ends the family.
func TestExampleOnce(t *testing.T) {
	x := exampleTable(t)
	_, errno := access.NewKey(x, secret(900), 30, 100)
	wantErrno(t, "NewKey", errno, api.OK)
	e, errno := endpoint.New(x, config())
	wantErrno(t, "New", errno, api.OK)
	i, errno := grant.Issue(x, "app", "ann", nil, 100, secret(1))
	wantErrno(t, "Issue", errno, api.OK)
	m := example("/token", "grant_type=refresh_token&refresh_token="+i.Token, true)
	one := e.Serve(m, 110, secret(2))
	two := e.Serve(m, 119, secret(3))
	next := memberOf(one.Body, "refresh_token")
	if one.Status != 200 || two.Status != 200 || next == "" || next == i.Token || memberOf(two.Body, "refresh_token") != next {
		t.Fatalf("%v, %v", one, two)
	}
	wantAnswer(t, "too late", e.Serve(m, 120, secret(4)), badGrant)
	m.Body = "grant_type=refresh_token&refresh_token=" + next
	wantAnswer(t, "the next one", e.Serve(m, 120, secret(5)), badGrant)
	wantAnswer(t, "told", e.Serve(example("/introspect", "token="+next, true), 120, ""), worthless)
}
