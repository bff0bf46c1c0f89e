package view

import (
	"strings"

	"latchkey/api"
)

// Seek sets the cursor to the first key from one on: is there one?
func (v *View) Seek(key string) (bool, api.Errno) {
	return v.move(v.upward(), span{from: key})
}

// Next moves the cursor on.
func (v *View) Next() (bool, api.Errno) {
	if errno := v.standing(); errno != api.OK {
		return false, errno
	}
	return v.move(v.upward(), span{}.above(v.here.Key))
}

// Prev moves the cursor back.
func (v *View) Prev() (bool, api.Errno) {
	if errno := v.standing(); errno != api.OK {
		return false, errno
	}
	return v.move(v.downward(), span{}.below(v.here.Key))
}

// Here is where the cursor stands.
func (v *View) Here() (api.Pair, api.Errno) {
	if errno := v.standing(); errno != api.OK {
		return api.Pair{}, errno
	}
	return api.Pair{Key: strings.Clone(v.here.Key), Value: strings.Clone(v.here.Value)}, api.OK
}

// standing: does the cursor stand on a pair? The disk is asked ahead of that, though a cursor that stands nowhere has nothing to read.
func (v *View) standing() api.Errno {
	if v.isClosed() {
		return api.ErrViewClosed
	}
	if _, errno := v.pager.Next(0); errno != api.OK {
		return errno
	}
	if v.here.Key == "" {
		return api.ErrViewPlace
	}
	return api.OK
}

// move sets the cursor on the pair of a span that comes first on a course; nowhere, if there is none.
func (v *View) move(c course, s span) (bool, api.Errno) {
	l, _, errno := c.next(s, 1)
	if errno != api.OK {
		return false, errno
	}
	v.here = api.Pair{}
	if len(l) > 0 {
		v.here = l[0]
	}
	return len(l) > 0, api.OK
}
