package grant

import (
	"latchkey/api"
	"latchkey/table"
)

// open is what each call but Begin does first of all, whatever it answers then: it forgets what somebody has begun, and shows the clock the reading.
func open(t *table.Table, reading int) {
	t.Abort()
	t.See(reading)
}

// committed makes a change and commits it: what the change answers. What it has begun is forgotten, unless it was committed.
func committed[A any](t *table.Table, change func() (A, api.Errno)) (answer A, errno api.Errno) {
	defer func() {
		if errno != api.OK {
			var none A
			answer = none
			t.Abort()
		}
	}()
	if answer, errno = change(); errno == api.OK {
		errno = t.Commit()
	}
	return answer, errno
}
