package trail

import (
	"latchkey/api"
	"latchkey/table"
)

// add lays an event behind the last one, and lets the first one go if there are too many then. All that may be refused is asked ahead of the first change, so that an error leaves the table as it was.
func add(t *table.Table, c api.Chain, e api.Event) api.Errno {
	c.Next++
	c.NextHash = digestOf(c.NextHash).behind(e).text()
	if c.Next-c.Base-1 > api.MaxEvents {
		first, errno := oldest(t, c)
		if errno != api.OK {
			return errno
		}
		c.Base++
		c.BaseHash = digestOf(c.BaseHash).behind(first).text()
		if errno := t.RemoveEvent(first.Number); errno != api.OK {
			return errno
		}
	}
	if errno := t.PutEvent(e); errno != api.OK {
		return errno
	}
	return t.PutChain(c)
}

// oldest is the first event that is kept. A table whose events are others than its chain says has none that could go: its trail is broken.
func oldest(t *table.Table, c api.Chain) (api.Event, api.Errno) {
	l, errno := t.Events()
	if errno != api.OK {
		return api.Event{}, errno
	}
	if len(l) == 0 || l[0].Number != c.Base+1 {
		return api.Event{}, api.ErrTrailChain
	}
	return l[0], api.OK
}
