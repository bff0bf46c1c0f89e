package client

import (
	"slices"

	"latchkey/api"
	"latchkey/scope"
	"latchkey/table"
	"latchkey/trail"
)

// begin is what each call does first of all, whatever it answers then: it forgets what somebody has begun, and shows the clock the reading. It tells the time.
func begin(t *table.Table, reading int) int {
	t.Abort()
	return t.See(reading)
}

// mayBegin: may a client be registered so? What is kept of its secrets is not for the one who registers it to say.
func mayBegin(c api.Client) bool {
	return isName(c.Name) && scope.Right(c.Scope) &&
		isSpan(c.Idle) && isSpan(c.Absolute) && isSpan(c.Life) && (c.Grace == 0 || isSpan(c.Grace)) &&
		c.Hash == "" && c.Old == "" && c.Until == 0
}

// isName: a client's name is made as those in a scope are.
func isName(s string) bool { return scope.Right([]string{s}) }

func isSpan(n int) bool { return n >= 1 && n <= api.MaxTime }

func named(name string) func(api.Client) bool {
	return func(c api.Client) bool { return c.Name == name }
}

// find is the client of a name. All are gone through, since the table refuses to look for a text that is no name, even on a dead disk, and here that is nobody's.
func find(t *table.Table, name string) (api.Client, api.Errno) {
	l, errno := t.Clients()
	if errno != api.OK {
		return api.Client{}, errno
	}
	at := slices.IndexFunc(l, named(name))
	if at < 0 {
		return api.Client{}, api.ErrClientNone
	}
	return l[at], api.OK
}

// change lets a client be so from now on, with its event, in one commit. What was begun is forgotten if something is refused; behind the commit there is nothing to forget.
func change(t *table.Table, c api.Client) api.Errno {
	defer t.Abort()
	if errno := t.PutClient(c); errno != api.OK {
		return errno
	}
	if _, errno := trail.Note(t, api.EventClient, 0, c.Name); errno != api.OK {
		return errno
	}
	return t.Commit()
}
