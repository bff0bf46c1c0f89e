package access

import (
	"strconv"
	"strings"

	"latchkey/api"
	"latchkey/codec"
	"latchkey/hash"
	"latchkey/jot"
	"latchkey/scope"
)

// part is one of those that stand in a token, with a point between each two. What it says, and by which bytes, is its own; that these stand there as Base64 is the same for all.
type part interface {
	says() (string, bool) // the bytes; false, if what it says may not be
	hear(said string)     // from now on it says what such bytes say, as far as it understands them
}

// spelled is parts as they stand in a token; false, if what one of them says may not be.
func spelled(parts ...part) (string, bool) {
	var out strings.Builder
	for n, p := range parts {
		said, mayBe := p.says()
		if !mayBe {
			return "", false
		}
		if n > 0 {
			out.WriteByte('.')
		}
		out.WriteString(codec.Base64(said))
	}
	return out.String(), true
}

// heard lets parts say what a text says, and tells whether it is just theirs. Each takes from it what it understands, and no part asks how that was written: for the text counts only if they would spell it so again, to the byte.
func heard(s string, parts ...part) bool {
	pieces := strings.SplitN(s, ".", len(parts)+1)
	if len(pieces) != len(parts) {
		return false
	}
	for n, p := range parts {
		said, _ := codec.FromBase64(pieces[n])
		p.hear(said)
	}
	again, mayBe := spelled(parts...)
	return mayBe && again == s
}

// signed is the token of a key's number, an issuer and claims, under any secret; false, if one of the three may not be.
func signed(number int, secret, issuer string, c api.Claims) (string, bool) {
	h, b := &head{number}, &body{issuer, c}
	ahead, mayBe := spelled(h, b)
	if !mayBe {
		return "", false
	}
	return spelled(h, b, &mac{hash.MAC(secret, ahead)})
}

// head says how the token is signed, and by which key.
type head struct {
	number int
}

func (h *head) says() (string, bool) {
	s, errno := jot.Print(api.Jot{
		Kind:  api.JotObject,
		Names: []string{"alg", "kid", "typ"},
		Items: []api.Jot{asText("HS256"), asText(strconv.Itoa(h.number)), asText("at+jwt")},
	})
	return s, errno == api.OK && isKeyNumber(h.number)
}

func (h *head) hear(said string) {
	v, _, _ := jot.Parse(said)
	h.number, _ = strconv.Atoi(member(v, "kid").Text)
}

// body says the claims, and who has issued the token. Whoever reads it must know ahead who that is.
type body struct {
	issuer string
	claims api.Claims
}

func (b *body) says() (string, bool) {
	c := b.claims
	if !isName(b.issuer) || !isClaims(c) {
		return "", false
	}
	names, _ := scope.Print(c.Scope) // it is a scope
	s, errno := jot.Print(api.Jot{
		Kind:  api.JotObject,
		Names: []string{"client_id", "exp", "fam", "iat", "iss", "jti", "scope", "sub"},
		Items: []api.Jot{
			asText(c.Client), asNumber(c.End), asNumber(c.Family), asNumber(c.Issued),
			asText(b.issuer), asNumber(c.Number), asText(names), asText(c.Subject),
		},
	})
	return s, errno == api.OK
}

func (b *body) hear(said string) {
	v, _, _ := jot.Parse(said)
	names, _ := scope.Parse(member(v, "scope").Text)
	b.claims = api.Claims{
		Client: member(v, "client_id").Text, Subject: member(v, "sub").Text, Scope: names,
		Family: member(v, "fam").Number, Number: member(v, "jti").Number,
		Issued: member(v, "iat").Number, End: member(v, "exp").Number,
	}
}

// mac says that what stands ahead was signed. By which key is not for it to ask.
type mac struct {
	digest string
}

func (m *mac) says() (string, bool) { return m.digest, len(m.digest) == api.HashSize }

func (m *mac) hear(said string) { m.digest = said }

func asText(s string) api.Jot { return api.Jot{Kind: api.JotText, Text: s} }

func asNumber(n int) api.Jot { return api.Jot{Kind: api.JotNumber, Number: n} }

// member is what an object has under a name; null, if it has nothing there, or is no object.
func member(v api.Jot, name string) api.Jot {
	item, _ := jot.Get(v, name)
	return item
}
