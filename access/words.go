package access

import (
	"latchkey/api"
	"latchkey/scope"
)

const maxKeyNumber = 1 << 30

func isKeyNumber(n int) bool { return n >= 1 && n <= maxKeyNumber }

func isSecret(s string) bool { return len(s) == api.SecretSize }

func isTime(n int) bool { return n >= 0 && n <= api.MaxTime }

// isName: names of issuers, of clients and of subjects are made as those in a scope are.
func isName(s string) bool { return scope.Right([]string{s}) }

// isKey: may a key be, as chapter 14 says?
func isKey(k api.Key) bool {
	return isKeyNumber(k.Number) && isSecret(k.Secret) && isTime(k.From) && isTime(k.Until) && k.Until >= k.From
}

// isNumber: is it a number that says which one, and that JSON can say?
func isNumber(n int) bool { return n >= 1 && n <= api.MaxNumber }

// isClaims: may claims be?
func isClaims(c api.Claims) bool {
	return isName(c.Client) && isName(c.Subject) && scope.Right(c.Scope) &&
		isNumber(c.Family) && isNumber(c.Number) &&
		isTime(c.Issued) && isTime(c.End) && c.End >= c.Issued
}
