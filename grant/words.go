package grant

import (
	"strings"

	"latchkey/api"
	"latchkey/hash"
	"latchkey/scope"
	"latchkey/table"
	"latchkey/token"
)

// isName: names of clients and of subjects are made as those in a scope are.
func isName(s string) bool { return scope.Right([]string{s}) }

func isCode(id int) bool { return id >= 0 && id <= api.MaxID }

func isSecret(s string) bool { return len(s) == api.SecretSize }

// clientOf is the client of a name.
func clientOf(t *table.Table, name string) (api.Client, api.Errno) {
	c, errno := t.Client(name)
	if errno == api.ErrTableNone {
		errno = api.ErrClientNone
	}
	return c, errno
}

// find is the token whose text that is, and its family; whether there is one.
func find(t *table.Table, text string) (api.Family, api.Token, bool) {
	id, _, errno := token.Parse(api.Refresh, text)
	if errno != api.OK {
		return api.Family{}, api.Token{}, false
	}
	k, errno := t.Token(id)
	if errno != api.OK || !hash.Same(k.Hash, token.Hash(text)) {
		return api.Family{}, api.Token{}, false
	}
	f, errno := t.Family(k.Family)
	return f, k, errno == api.OK
}

// issued is what is told of a token of a family, for the names that were asked for.
func issued(c api.Client, f api.Family, id, gen int, names []string, secret string) (api.Issued, api.Errno) {
	text, errno := token.Mint(api.Refresh, id, secret)
	if errno != api.OK {
		return api.Issued{}, errno
	}
	return api.Issued{
		Token: text, Family: f.ID, Gen: gen, Scope: ownNames(chosen(names, f.Scope)), Subject: strings.Clone(f.Subject), Life: c.Life,
	}, api.OK
}

// chosen are the names that were asked for; who names none asks for all.
func chosen(names, all []string) []string {
	if len(names) == 0 {
		return all
	}
	return names
}

// ownNames are the same names in memory of their own.
func ownNames(l []string) []string {
	var names []string
	for _, name := range l {
		names = append(names, strings.Clone(name))
	}
	return names
}
