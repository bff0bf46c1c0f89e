package code

import (
	"latchkey/api"
	"latchkey/hash"
)

// worth is what a code that is shown is worth.
type worth int

const (
	unknown  worth = iota // no code's text, or another client's: whoever shows it learns and changes nothing
	spent                 // a family came of it, so two must have it
	late                  // it is over
	unproved              // whoever shows it does not know the verifier
	good                  // a family
)

// worthOf is what a code is worth to a client that shows it with a verifier at a time. What was spent is so whatever the verifier is, and however late.
func worthOf(k api.Code, client, verifier string, now int) worth {
	switch {
	case k.Client != client:
		return unknown
	case k.State == api.CodeSpent:
		return spent
	case isOver(k, now):
		return late
	case !isVerifier(verifier) || !hash.Same(hash.Sum(verifier), k.Challenge):
		return unproved
	}
	return good
}

func isOver(k api.Code, now int) bool { return now >= k.Until }
