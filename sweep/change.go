package sweep

import (
	"latchkey/api"
	"latchkey/table"
	"latchkey/trail"
)

// open is what each call does first of all, whatever it answers then: it forgets what somebody has begun, and shows the clock the reading.
func open(t *table.Table, reading int) {
	t.Abort()
	t.See(reading)
}

// swept takes all of a pile away, in one commit: how much. What was begun is forgotten if something is refused; behind the commit there is nothing to forget.
func swept(t *table.Table, l pile) (api.Swept, api.Errno) {
	defer t.Abort()
	s, errno := removed(t, l)
	if errno == api.OK {
		errno = t.Commit()
	}
	if errno != api.OK {
		return api.Swept{}, errno
	}
	return s, api.OK
}

// removed takes all of a pile away in the changes of a table.
func removed(t *table.Table, l pile) (api.Swept, api.Errno) {
	var s api.Swept
	for _, f := range l.families {
		tokens, codes, errno := removeFamily(t, f)
		if errno != api.OK {
			return api.Swept{}, errno
		}
		s.Families++
		s.Tokens += tokens
		s.Codes += codes
	}
	for _, k := range l.codes {
		codes, errno := removeCode(t, k.ID)
		if errno != api.OK {
			return api.Swept{}, errno
		}
		s.Codes += codes
	}
	return s, api.OK
}

// removeFamily takes a family away, with its tokens and the code that it came of, and notes its event: how many of these there were.
func removeFamily(t *table.Table, f api.Family) (tokens, codes int, errno api.Errno) {
	l, errno := t.Tokens(f.ID)
	if errno != api.OK {
		return 0, 0, errno
	}
	if errno := t.Remove(f.ID); errno != api.OK {
		return 0, 0, errno
	}
	if f.Code != 0 {
		codes, errno = removeCode(t, f.Code)
	}
	if errno == api.OK {
		_, errno = trail.Note(t, api.EventSweep, f.ID, f.Client)
	}
	return len(l), codes, errno
}

// removeCode takes a code away, if it is there: how many that were. Two may lead to one, so it may be gone already.
func removeCode(t *table.Table, id int) (int, api.Errno) {
	switch errno := t.RemoveCode(id); errno {
	case api.OK:
		return 1, api.OK
	case api.ErrTableNone:
		return 0, api.OK
	default:
		return 0, errno
	}
}
