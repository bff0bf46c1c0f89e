package trail

import (
	"latchkey/api"
	"latchkey/record"
)

// eventMayBe: what layer 14 would print may be.
func eventMayBe(e api.Event) bool {
	_, errno := record.PrintEvent(e)
	return errno == api.OK
}

// eventsMayBe asks that of all of them.
func eventsMayBe(l []api.Event) bool {
	for _, e := range l {
		if !eventMayBe(e) {
			return false
		}
	}
	return true
}

// chainMayBe asks it of a chain.
func chainMayBe(c api.Chain) bool {
	_, errno := record.PrintChain(c)
	return errno == api.OK
}

// lead: do events that may be lead from the base of a chain on?
func lead(c api.Chain, l []api.Event) bool {
	if len(l) != c.Next-c.Base-1 {
		return false
	}
	for n, e := range l {
		if e.Number != c.Base+1+n {
			return false
		}
	}
	return along(digestOf(c.BaseHash), l) == digestOf(c.NextHash)
}
