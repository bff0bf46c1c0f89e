package client

import (
	"latchkey/api"
	"latchkey/hash"
)

const (
	minPassword = 16
	maxPassword = 64
)

func isPassword(s string) bool {
	if len(s) < minPassword || len(s) > maxPassword {
		return false
	}
	for n := range len(s) {
		if s[n] < '!' || s[n] > '~' {
			return false
		}
	}
	return true
}

// maySecret: may a client begin with that secret? A public one has none.
func maySecret(public bool, secret string) bool {
	if public {
		return secret == ""
	}
	return isPassword(secret)
}

// isSecretOf: does whoever shows that text at a time show what the client must? Whether it is a password is not asked: what was given was one.
func isSecretOf(c api.Client, secret string, now int) bool {
	if c.Public {
		return secret == ""
	}
	shown := hash.Sum(secret)
	isShown := func(digest string) bool { return hash.Same(digest, shown) }
	return isShown(c.Hash) || now < c.Until && isShown(c.Old)
}
