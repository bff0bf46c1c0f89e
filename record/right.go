package record

import (
	"latchkey/api"
	"latchkey/scope"
)

const (
	maxKeyNumber = 1 << 30
	maxNextID    = api.MaxID + 1     // it says that no ID is left
	maxChain     = api.MaxEvents + 1 // by how much a chain's Next may be above its Base
)

func isTime(n int) bool { return n >= 0 && n <= api.MaxTime }

// isSpan: a length of time that is not nothing.
func isSpan(n int) bool { return n >= 1 && n <= api.MaxTime }

func isID(n int) bool { return n >= 1 && n <= api.MaxID }

func isGen(n int) bool { return n >= 1 && n <= api.MaxGen }

// isName: a name of a client or of a subject is made as those in a scope are.
func isName(s string) bool { return scope.Right([]string{s}) }

func isDigest(s string) bool { return len(s) == api.HashSize }

func isSecret(s string) bool { return len(s) == api.SecretSize }

func rightClient(c api.Client) bool {
	return isName(c.Name) && rightSecrets(c) && scope.Right(c.Scope) &&
		isSpan(c.Idle) && isSpan(c.Absolute) && isTime(c.Grace) && isSpan(c.Life)
}

// rightSecrets: may what a client has of its secrets be?
func rightSecrets(c api.Client) bool {
	noOld := c.Old == "" && c.Until == 0
	if c.Public {
		return c.Hash == "" && noOld
	}
	return isDigest(c.Hash) && (noOld || isDigest(c.Old) && isTime(c.Until))
}

func rightFamily(f api.Family) bool {
	return isID(f.ID) && isID(f.Token) && (f.Code == 0 || isID(f.Code)) &&
		isName(f.Client) && isName(f.Subject) && scope.Right(f.Scope) &&
		isTime(f.Created) && isTime(f.Used) && f.Used >= f.Created &&
		isSpan(f.Idle) && isSpan(f.Absolute) && isTime(f.Grace) &&
		isGen(f.Gen) && rightState(f)
}

// rightState: may a family's state be, and when it came to it?
func rightState(f api.Family) bool {
	switch f.State {
	case api.Active:
		return f.Ended == 0
	case api.Revoked, api.Reused, api.Expired:
		return isTime(f.Ended) && f.Ended >= f.Used
	}
	return false
}

func rightToken(t api.Token) bool {
	return isID(t.ID) && isID(t.Family) && isGen(t.Gen) && isDigest(t.Hash) && isTime(t.Minted) && rightSpent(t)
}

// rightSpent: may what a token has of its successor be?
func rightSpent(t api.Token) bool {
	if !t.Spent {
		return t.At == 0 && t.Next == 0 && t.Secret == ""
	}
	return isTime(t.At) && t.At >= t.Minted && isID(t.Next) && isSecret(t.Secret)
}

func rightCode(c api.Code) bool {
	return isID(c.ID) && isName(c.Client) && isName(c.Subject) && scope.Right(c.Scope) &&
		isDigest(c.Hash) && isDigest(c.Challenge) && isTime(c.Until) &&
		(c.State == api.CodeFresh && c.Family == 0 || c.State == api.CodeSpent && isID(c.Family))
}

func rightKey(k api.Key) bool {
	return k.Number >= 1 && k.Number <= maxKeyNumber && isSecret(k.Secret) &&
		isTime(k.From) && isTime(k.Until) && k.Until >= k.From
}

func rightEvent(e api.Event) bool {
	return isID(e.Number) && isTime(e.Time) && e.Kind >= api.EventIssue && e.Kind <= api.EventKey &&
		(e.Family == 0 || isID(e.Family)) && (e.Who == "" || isName(e.Who))
}

// rightChain asks for Base first: from a number that is not below 0 to a greater one no difference wraps round.
func rightChain(c api.Chain) bool {
	return c.Base >= 0 && c.Base <= api.MaxID &&
		c.Next > c.Base && c.Next-c.Base <= maxChain && c.Next <= maxNextID &&
		isDigest(c.BaseHash) && isDigest(c.NextHash)
}
