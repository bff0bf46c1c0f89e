package code

import (
	"latchkey/api"
	"latchkey/family"
	"latchkey/grant"
	"latchkey/table"
	"latchkey/token"
	"latchkey/trail"
)

// open is what each call does first of all, whatever it answers then: it forgets what somebody has begun, and shows the clock the reading. It tells the time.
func open(t *table.Table, reading int) int {
	t.Abort()
	return t.See(reading)
}

// committed makes a change and commits it: what the change answers. What it has begun is forgotten, unless it was committed.
func committed[A any](t *table.Table, change func() (A, api.Errno)) (answer A, errno api.Errno) {
	defer func() {
		if errno != api.OK {
			var none A
			answer = none
			t.Abort()
		}
	}()
	if answer, errno = change(); errno == api.OK {
		errno = t.Commit()
	}
	return answer, errno
}

// given lets a code be that has neither ID nor Hash yet, in the place of those that are over: its text.
func given(t *table.Table, over []api.Code, secret string, k api.Code) (string, api.Errno) {
	return committed(t, func() (string, api.Errno) {
		if errno := removed(t, over); errno != api.OK {
			return "", errno
		}
		id, errno := t.ID()
		if errno != api.OK {
			return "", errno
		}
		text, errno := token.Mint(api.Grant, id, secret)
		if errno != api.OK {
			return "", errno
		}
		k.ID, k.Hash = id, token.Hash(text)
		if errno := t.PutCode(k); errno != api.OK {
			return "", errno
		}
		_, errno = trail.Note(t, api.EventCode, 0, k.Client)
		return text, errno
	})
}

// removed takes codes away in the changes of a table.
func removed(t *table.Table, l []api.Code) api.Errno {
	for _, k := range l {
		if errno := t.RemoveCode(k.ID); errno != api.OK {
			return errno
		}
	}
	return api.OK
}

// redeemed begins the family of a code, which is spent by that.
func redeemed(t *table.Table, k api.Code, secret string) (api.Issued, api.Errno) {
	return committed(t, func() (api.Issued, api.Errno) {
		begun, errno := grant.Begin(t, k.Client, k.Subject, k.Scope, k.ID, secret)
		if errno != api.OK {
			return api.Issued{}, errno
		}
		k.State, k.Family = api.CodeSpent, begun.Family
		return begun, t.PutCode(k)
	})
}

// again is what refuses a code that is spent. The family that came of it ends ahead of that, for the refusal must not be answered if that could not be committed.
func again(t *table.Table, k api.Code) api.Errno {
	f, errno := t.Family(k.Family)
	if errno != api.OK || f.State != api.Active {
		return api.ErrCodeToken
	}
	if _, errno := committed(t, func() (int, api.Errno) { return reused(t, f) }); errno != api.OK {
		return errno
	}
	return api.ErrCodeToken
}

// reused lets a family end in the changes of a table: the number of its event.
func reused(t *table.Table, f api.Family) (int, api.Errno) {
	f, errno := family.Finish(f, api.Reused, t.Now())
	if errno != api.OK {
		return 0, errno
	}
	if errno := t.PutFamily(f); errno != api.OK {
		return 0, errno
	}
	return trail.Note(t, api.EventReuse, f.ID, f.Client)
}
