package endpoint_test

import (
	"crypto/hmac"
	"crypto/sha256"
	"encoding/base64"
	"encoding/binary"
	"fmt"
	"hash/crc32"
	"slices"
	"strings"

	"latchkey/access"
	"latchkey/api"
	"latchkey/client"
	"latchkey/code"
	"latchkey/grant"
	"latchkey/limit"
	"latchkey/query"
	"latchkey/scope"
	"latchkey/sweep"
	"latchkey/table"
)

// This file says the chapter's words once more, one behind the other; the layers that it names are asked, all else is written out. The program is held against it.

type desk struct {
	x *table.Table
	c api.Config
	l *limit.Limiter
}

// serve is E2.
func (k *desk) serve(m api.Message, now int, secret string) api.Answer {
	time := k.x.See(now)
	if !slices.Contains(allPaths, m.Path) {
		return plain(404)
	}
	if m.Method != "POST" {
		return plain(405, api.Field{Name: "Allow", Value: "POST"})
	}
	if l := headersOf(m, "content-type"); len(l) != 1 || l[0] != formType {
		return plain(415)
	}
	form, is := formOf(m.Body)
	if !is {
		return refusing(400, "invalid_request")
	}
	_, named := form["client_id"]
	_, secretly := form["client_secret"]
	told := headersOf(m, "authorization")
	if len(told) >= 2 || len(told) == 1 && (named || secretly) {
		return refusing(400, "invalid_request")
	}
	nobody := refusing(401, "invalid_client", api.Field{Name: "WWW-Authenticate", Value: "Basic realm=\"" + k.c.Issuer + "\""})
	name, password := form["client_id"], form["client_secret"]
	if len(told) == 1 {
		var is bool
		if name, password, is = basicOf(told[0]); !is {
			return nobody
		}
	} else if !named {
		return nobody
	}
	if _, errno := client.Check(k.x, name, password, now); errno == api.ErrDead {
		return refusing(503, "temporarily_unavailable")
	} else if errno != api.OK {
		return nobody
	}
	if seconds, errno := k.l.Take(name, 1, time); errno != api.OK {
		return refusing(429, "slow_down", api.Field{Name: "Retry-After", Value: fmt.Sprint(seconds)})
	}
	switch m.Path {
	case "/token":
		return k.token(form, name, now, secret)
	case "/revoke":
		return k.revoke(form, name, now)
	}
	return k.introspect(form, now)
}

// token is E3.
func (k *desk) token(form map[string]string, name string, now int, secret string) api.Answer {
	has := func(field string) bool {
		_, is := form[field]
		return is
	}
	kind := form["grant_type"]
	var wanted []string
	switch {
	case !has("grant_type"):
		return refusing(400, "invalid_request")
	case kind != "refresh_token" && kind != "authorization_code":
		return refusing(400, "unsupported_grant_type")
	case kind == "refresh_token" && !has("refresh_token"):
		return refusing(400, "invalid_request")
	case kind == "authorization_code" && !(has("code") && has("code_verifier")):
		return refusing(400, "invalid_request")
	}
	if kind == "refresh_token" && has("scope") {
		var errno api.Errno
		if wanted, errno = scope.Parse(form["scope"]); errno != api.OK {
			return refusing(400, "invalid_scope")
		}
	}
	key, errno := k.key()
	if errno != api.OK {
		return refusing(503, "temporarily_unavailable")
	}
	var i api.Issued
	if kind == "refresh_token" {
		i, errno = grant.Rotate(k.x, name, form["refresh_token"], wanted, now, secret)
	} else {
		i, errno = code.Redeem(k.x, name, form["code"], form["code_verifier"], now, secret)
	}
	switch {
	case errno == api.ErrGrantToken || errno == api.ErrCodeToken || errno == api.ErrCodeVerify:
		return refusing(400, "invalid_grant")
	case errno == api.ErrGrantScope:
		return refusing(400, "invalid_scope")
	case errno == api.ErrGrantMany:
		return refusing(400, "access_denied")
	case errno == api.ErrArg:
		return refusing(500, "server_error")
	case errno != api.OK:
		return refusing(503, "temporarily_unavailable")
	}
	c := api.Claims{Client: name, Subject: i.Subject, Scope: i.Scope, Family: i.Family, Number: idOf(i.Token), Issued: k.x.Now()}
	c.End = min(c.Issued+i.Life, lastTime)
	if c.Family > lastNumber || c.Number > lastNumber {
		return refusing(503, "temporarily_unavailable")
	}
	return said(200, fmt.Sprintf(`{"access_token":"%s","expires_in":%d,"refresh_token":"%s","scope":"%s","token_type":"Bearer"}`,
		tokenOf(key, k.c.Issuer, c), c.End-c.Issued, i.Token, strings.Join(i.Scope, " ")))
}

// key is the one that signs: of those that do, the one that was made last.
func (k *desk) key() (api.Key, api.Errno) {
	l, errno := k.x.Keys()
	if errno != api.OK {
		return api.Key{}, errno
	}
	l = slices.DeleteFunc(l, func(key api.Key) bool { return key.From > k.x.Now() || key.Until <= k.x.Now() })
	if len(l) == 0 {
		return api.Key{}, api.ErrAccessKey
	}
	return slices.MaxFunc(l, func(a, b api.Key) int {
		if a.From != b.From {
			return a.From - b.From
		}
		return a.Number - b.Number
	}), api.OK
}

// revoke is E4.
func (k *desk) revoke(form map[string]string, name string, now int) api.Answer {
	text, is := form["token"]
	if !is {
		return refusing(400, "invalid_request")
	}
	switch errno := grant.Revoke(k.x, name, text, now); errno {
	case api.OK:
		return plain(200)
	case api.ErrArg:
		return refusing(500, "server_error")
	}
	return refusing(503, "temporarily_unavailable")
}

// introspect is E5.
func (k *desk) introspect(form map[string]string, now int) api.Answer {
	text, is := form["token"]
	if !is {
		return refusing(400, "invalid_request")
	}
	i, errno := grant.Introspect(k.x, text, now)
	if errno == api.OK && !i.Active {
		i, errno = access.Worth(k.x, k.c.Issuer, text, now)
	}
	if errno != api.OK || i.Active && i.Family > lastNumber {
		return refusing(503, "temporarily_unavailable")
	}
	if !i.Active {
		return said(200, `{"active":false}`)
	}
	return said(200, fmt.Sprintf(`{"active":true,"client_id":"%s","exp":%d,"fam":%d,"iat":%d,"scope":"%s","sub":"%s"}`,
		i.Client, i.End, i.Family, i.Issued, strings.Join(i.Scope, " "), i.Subject))
}

// tend is E6.
func (k *desk) tend(now int) (api.Swept, api.Errno) { return sweep.Run(k.x, k.c.Retain, 16, now) }

// headersOf are the values of the headers of a name, which is told in small letters.
func headersOf(m api.Message, name string) []string {
	var l []string
	for _, f := range m.Headers {
		if small(f.Name) == name {
			l = append(l, f.Value)
		}
	}
	return l
}

// small is a text in which A to Z are a to z.
func small(s string) string {
	l := []byte(s)
	for n, b := range l {
		if b >= 'A' && b <= 'Z' {
			l[n] = b + 32
		}
	}
	return string(l)
}

// formOf are a form's fields, if it is one in which each name stands once.
func formOf(body string) (map[string]string, bool) {
	l, errno, _ := query.Parse(body)
	form := map[string]string{}
	for _, f := range l {
		if _, there := form[f.Name]; there {
			return nil, false
		}
		form[f.Name] = f.Value
	}
	return form, errno == api.OK
}

// basicOf is who asks by a header's value.
func basicOf(value string) (name, secret string, is bool) {
	if len(value) < 6 || value[:6] != "Basic " || strings.ContainsAny(value, "\r\n") { // the library reads over these
		return "", "", false
	}
	pair, err := base64.StdEncoding.Strict().DecodeString(value[6:])
	at := strings.IndexByte(string(pair), ':')
	if err != nil || at < 0 {
		return "", "", false
	}
	name, one := query.Unescape(string(pair)[:at])
	secret, other := query.Unescape(string(pair)[at+1:])
	return name, secret, one == api.OK && other == api.OK
}

// idOf is the number of a refresh token.
func idOf(text string) int {
	l, err := base64.RawURLEncoding.DecodeString(text[4:])
	if err != nil || len(l) != 36 {
		panic("the test is wrong: no refresh token: " + text)
	}
	return int(binary.BigEndian.Uint64(l))
}

func digestOf(s string) string {
	sum := sha256.Sum256([]byte(s))
	return string(sum[:])
}

func lettersOf(s string) string { return base64.RawURLEncoding.EncodeToString([]byte(s)) }

func challengeOf(verifier string) string { return lettersOf(digestOf(verifier)) }

// tokenOf is the access token of a key, an issuer and claims.
func tokenOf(key api.Key, issuer string, c api.Claims) string {
	head := fmt.Sprintf(`{"alg":"HS256","kid":"%d","typ":"at+jwt"}`, key.Number)
	body := fmt.Sprintf(`{"client_id":"%s","exp":%d,"fam":%d,"iat":%d,"iss":"%s","jti":%d,"scope":"%s","sub":"%s"}`,
		c.Client, c.End, c.Family, c.Issued, issuer, c.Number, strings.Join(c.Scope, " "), c.Subject)
	ahead := lettersOf(head) + "." + lettersOf(body)
	m := hmac.New(sha256.New, []byte(key.Secret))
	m.Write([]byte(ahead))
	return ahead + "." + lettersOf(string(m.Sum(nil)))
}

// textOf is a refresh token's text, or a code's.
func textOf(prefix string, id int, secret string) string {
	body := append(binary.BigEndian.AppendUint64(nil, uint64(id)), secret...)
	body = binary.BigEndian.AppendUint32(body, crc32.ChecksumIEEE(append([]byte(prefix), body...)))
	return prefix + lettersOf(string(body))
}
