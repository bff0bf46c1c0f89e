package access

import (
	"latchkey/api"
	"latchkey/table"
	"latchkey/trail"
)

// open is what each call over a table does first of all, whatever it answers then: it forgets what somebody has begun, and shows the clock the reading. It tells the time.
func open(t *table.Table, reading int) int {
	t.Abort()
	return t.See(reading)
}

// counts: does what a key signed count at a time?
func counts(k api.Key, now int) bool { return now < k.Until }

// signs: does a key sign at a time?
func signs(k api.Key, now int) bool { return k.From <= now && counts(k, now) }

// isAhead: of two keys that could sign, does it go ahead of the other?
func isAhead(k, than api.Key) bool {
	if k.From != than.From {
		return k.From > than.From
	}
	return k.Number > than.Number
}

// countingOf is how many keys there are of which what they signed counts.
func countingOf(keys []api.Key, now int) int {
	count := 0
	for _, k := range keys {
		if counts(k, now) {
			count++
		}
	}
	return count
}

// greatestOf is the greatest number of some keys; 0 of none.
func greatestOf(keys []api.Key) int {
	greatest := 0
	for _, k := range keys {
		greatest = max(greatest, k.Number)
	}
	return greatest
}

// renewed lets a key be beside those that there were, in one commit, with its event. What was begun is forgotten if something is refused; behind the commit there is nothing to forget.
func renewed(t *table.Table, old []api.Key, until int, fresh api.Key) api.Errno {
	defer t.Abort()
	for _, k := range old {
		if errno := outdated(t, k, until); errno != api.OK {
			return errno
		}
	}
	if errno := t.PutKey(fresh); errno != api.OK {
		return errno
	}
	if _, errno := trail.Note(t, api.EventKey, 0, ""); errno != api.OK {
		return errno
	}
	return t.Commit()
}

// outdated lets an old key go in the changes of a table, if nothing that it signed counts any more; one that has no end yet is given one.
func outdated(t *table.Table, k api.Key, until int) api.Errno {
	switch {
	case !counts(k, t.Now()):
		return t.RemoveKey(k.Number)
	case k.Until == api.MaxTime:
		k.Until = until
		return t.PutKey(k)
	}
	return api.OK
}
