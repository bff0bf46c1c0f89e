package family

import (
	"strings"

	"latchkey/api"
	"latchkey/clock"
	"latchkey/record"
	"latchkey/token"
)

// nearest is the nearest time of a number.
func nearest(n int) int { return clock.First(n) }

// isEnd: is that a state of a family that has ended?
func isEnd(state int) bool { return state >= api.Revoked && state <= api.Expired }

// A record may be if layer 14 prints it: so its rules stand there alone.

func clientMayBe(c api.Client) bool {
	_, errno := record.PrintClient(c)
	return errno == api.OK
}

func familyMayBe(f api.Family) bool {
	_, errno := record.PrintFamily(f)
	return errno == api.OK
}

func tokenMayBe(t api.Token) bool {
	_, errno := record.PrintToken(t)
	return errno == api.OK
}

// current is the token that a family names as its current one, minted when the family was used last; ErrArg, if no text can be minted of its ID and the secret.
func current(f api.Family, secret string) (api.Token, api.Errno) {
	text, errno := token.Mint(api.Refresh, f.Token, secret)
	if errno != api.OK {
		return api.Token{}, errno
	}
	return api.Token{ID: f.Token, Family: f.ID, Gen: f.Gen, Hash: token.Hash(text), Minted: f.Used}, api.OK
}

// What comes out is in memory of its own, whatever becomes of what was handed in.

func ownFamily(f api.Family) api.Family {
	f.Client, f.Subject, f.Scope = strings.Clone(f.Client), strings.Clone(f.Subject), ownNames(f.Scope)
	return f
}

func ownToken(t api.Token) api.Token {
	t.Hash, t.Secret = strings.Clone(t.Hash), strings.Clone(t.Secret)
	return t
}

func ownNames(l []string) []string {
	var names []string
	for _, name := range l {
		names = append(names, strings.Clone(name))
	}
	return names
}
