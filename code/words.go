package code

import (
	"latchkey/api"
	"latchkey/codec"
	"latchkey/hash"
	"latchkey/scope"
	"latchkey/table"
	"latchkey/token"
)

const (
	minVerifier = 43
	maxVerifier = 128
)

func isVerifier(s string) bool {
	if len(s) < minVerifier || len(s) > maxVerifier {
		return false
	}
	for n := range len(s) {
		if !isVerifierByte(s[n]) {
			return false
		}
	}
	return true
}

func isVerifierByte(b byte) bool {
	switch {
	case b >= 'a' && b <= 'z', b >= 'A' && b <= 'Z', b >= '0' && b <= '9':
		return true
	case b == '-', b == '.', b == '_', b == '~':
		return true
	}
	return false
}

// challenged is the digest of which a challenge is the Base64; whether it is a challenge.
func challenged(challenge string) (string, bool) {
	digest, errno := codec.FromBase64(challenge)
	return digest, errno == api.OK && len(digest) == api.HashSize
}

// isName: names of clients and of subjects are made as those in a scope are.
func isName(s string) bool { return scope.Right([]string{s}) }

func isSecret(s string) bool { return len(s) == api.SecretSize }

// clientOf is the client of a name.
func clientOf(t *table.Table, name string) (api.Client, api.Errno) {
	c, errno := t.Client(name)
	if errno == api.ErrTableNone {
		errno = api.ErrClientNone
	}
	return c, errno
}

// chosen are the names that were asked for; who names none asks for all.
func chosen(names, all []string) []string {
	if len(names) == 0 {
		return all
	}
	return names
}

// freshOf are the codes that nobody has redeemed: those that may be still, and those that are over.
func freshOf(t *table.Table, now int) (fresh, over []api.Code, errno api.Errno) {
	l, errno := t.Codes()
	for _, k := range l {
		switch {
		case k.State != api.CodeFresh:
		case isOver(k, now):
			over = append(over, k)
		default:
			fresh = append(fresh, k)
		}
	}
	return fresh, over, errno
}

// find is the code whose text that is; nobody's, if there is none.
func find(t *table.Table, text string) api.Code {
	id, _, errno := token.Parse(api.Grant, text)
	if errno != api.OK {
		return api.Code{}
	}
	k, errno := t.Code(id)
	if errno != api.OK || !hash.Same(k.Hash, token.Hash(text)) {
		return api.Code{}
	}
	return k
}
