package table

import (
	"cmp"
	"slices"

	"latchkey/api"
)

// belong: do the records belong together, of a next ID and a time?
func (l *found) belong(next, now int) bool {
	return l.areFew() && l.tokensFollow() && l.codesMatch() && l.eventsFollow() && l.areBelow(next) && l.areBy(now)
}

func (l *found) areFew() bool {
	fresh := 0
	for _, c := range l.codes {
		if c.State == api.CodeFresh {
			fresh++
		}
	}
	return len(l.clients) <= api.MaxClients && fresh <= api.MaxCodes && len(l.keys) <= api.MaxKeys
}

// tokensFollow: has each family just the tokens that it must have, and does nobody else have one? Both lists rise by families, so each family's tokens stand ahead of all that are left.
func (l *found) tokensFollow() bool {
	left := slices.SortedFunc(slices.Values(l.tokens), byPlace)
	for _, f := range l.families {
		if len(left) < f.Gen || !isLine(f, left[:f.Gen]) {
			return false
		}
		left = left[f.Gen:]
	}
	return len(left) == 0
}

func byPlace(a, b api.Token) int {
	return cmp.Or(cmp.Compare(a.Family, b.Family), cmp.Compare(a.Gen, b.Gen))
}

// isLine: are these a family's tokens, from the first generation on, each leading to the next, up to the current one?
func isLine(f api.Family, l []api.Token) bool {
	for i, k := range l {
		if k.Family != f.ID || k.Gen != i+1 {
			return false
		}
		isLast := i == len(l)-1
		if k.Spent == isLast || isLast && k.ID != f.Token || !isLast && k.Next != l[i+1].ID {
			return false
		}
	}
	return true
}

// redeemed is a code, and the family that came of it.
type redeemed struct {
	code, family int
}

// codesMatch: do the spent codes and the families that came of codes name one another? They do, if both say the same of who came of whom.
func (l *found) codesMatch() bool {
	var byCodes, byFamilies []redeemed
	for _, c := range l.codes {
		if c.State == api.CodeSpent {
			byCodes = append(byCodes, redeemed{c.ID, c.Family})
		}
	}
	for _, f := range l.families {
		if f.Code != 0 {
			byFamilies = append(byFamilies, redeemed{f.Code, f.ID})
		}
	}
	slices.SortFunc(byFamilies, func(a, b redeemed) int { return cmp.Compare(a.code, b.code) })
	return slices.Equal(byCodes, byFamilies)
}

// eventsFollow: are the events just those that the chain says?
func (l *found) eventsFollow() bool {
	chain := firstChain()
	if len(l.chains) > 0 {
		chain = l.chains[0]
	}
	for i, e := range l.events {
		if e.Number != chain.Base+1+i {
			return false
		}
	}
	return len(l.events) == chain.Next-chain.Base-1
}

// areBelow: are all IDs below the next one?
func (l *found) areBelow(next int) bool {
	return !slices.ContainsFunc(l.families, func(f api.Family) bool { return f.ID >= next }) &&
		!slices.ContainsFunc(l.tokens, func(k api.Token) bool { return k.ID >= next }) &&
		!slices.ContainsFunc(l.codes, func(c api.Code) bool { return c.ID >= next })
}

// areBy: is nothing that was done ahead of the time?
func (l *found) areBy(now int) bool {
	return !slices.ContainsFunc(l.families, func(f api.Family) bool { return max(f.Created, f.Used, f.Ended) > now }) &&
		!slices.ContainsFunc(l.tokens, func(k api.Token) bool { return max(k.Minted, k.At) > now }) &&
		!slices.ContainsFunc(l.keys, func(k api.Key) bool { return k.From > now }) &&
		!slices.ContainsFunc(l.events, func(e api.Event) bool { return e.Time > now })
}
