package grant

import (
	"slices"

	"latchkey/api"
	"latchkey/family"
	"latchkey/table"
	"latchkey/trail"
)

// familiesOf are a subject's, by rising IDs, whatever their states.
func familiesOf(t *table.Table, subject string) ([]api.Family, api.Errno) {
	ids, errno := t.Subject(subject)
	if errno != api.OK {
		return nil, errno
	}
	var l []api.Family
	for _, id := range ids {
		f, errno := t.Family(id)
		if errno != api.OK {
			return nil, errno
		}
		l = append(l, f)
	}
	return l, api.OK
}

func activeOf(l []api.Family) []api.Family {
	return slices.DeleteFunc(l, func(f api.Family) bool { return f.State != api.Active })
}

// aliveOf is how many are alive at a time.
func aliveOf(l []api.Family, now int) int {
	alive := 0
	for _, f := range l {
		if family.Alive(f, now) {
			alive++
		}
	}
	return alive
}

// begin lays a family into the changes of a table. Its event is noted ahead of all else, for where no number is left for that nothing may be changed.
func begin(t *table.Table, c api.Client, subject string, names []string, code int, secret string) (api.Issued, api.Errno) {
	id, errno := t.ID()
	if errno != api.OK {
		return api.Issued{}, errno
	}
	first, errno := t.ID()
	if errno != api.OK {
		return api.Issued{}, errno
	}
	f, k, errno := family.Begin(id, first, c, subject, names, secret, t.Now())
	if errno != api.OK {
		return api.Issued{}, errno
	}
	f.Code = code
	if errno := put(t, api.EventIssue, f, k); errno != api.OK {
		return api.Issued{}, errno
	}
	return issued(c, f, k.ID, k.Gen, nil, secret)
}

// put lays a family and tokens of it into the changes of a table, with an event of its client's.
func put(t *table.Table, kind int, f api.Family, tokens ...api.Token) api.Errno {
	if _, errno := trail.Note(t, kind, f.ID, f.Client); errno != api.OK {
		return errno
	}
	for _, k := range tokens {
		if errno := t.PutToken(k); errno != api.OK {
			return errno
		}
	}
	return t.PutFamily(f)
}

// ended lets families end at a table's time, in one commit, each with its event: how many were alive till then.
func ended(t *table.Table, state, kind int, who string, l ...api.Family) (int, api.Errno) {
	return committed(t, func() (int, api.Errno) {
		for _, f := range l {
			if errno := end(t, f, state, kind, who); errno != api.OK {
				return 0, errno
			}
		}
		return aliveOf(l, t.Now()), api.OK
	})
}

// end lets a family end in the changes of a table.
func end(t *table.Table, f api.Family, state, kind int, who string) api.Errno {
	f, errno := family.Finish(f, state, t.Now())
	if errno != api.OK {
		return errno
	}
	if errno := t.PutFamily(f); errno != api.OK {
		return errno
	}
	_, errno = trail.Note(t, kind, f.ID, who)
	return errno
}
