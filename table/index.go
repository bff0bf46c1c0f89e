package table

import (
	"latchkey/api"
	"latchkey/record"
)

// The letters with which the keys of the indexes begin.
const (
	membersLetter  = "m"
	endsLetter     = "x"
	subjectsLetter = "s"
)

// Subject are the IDs of a subject's families, rising.
func (t *Table) Subject(subject string) ([]int, api.Errno) {
	if !isName(subject) {
		return nil, api.ErrArg
	}
	l, errno := t.pairs.under(subjectsLetter + subject + "\x00")
	if errno != api.OK {
		return nil, errno
	}
	return named(l)
}

// Ending are the IDs of the families that end ahead of a time, those that end first ahead.
func (t *Table) Ending(before, most int) ([]int, api.Errno) {
	end := min(max(before, 0), api.MaxTime+1) // no family ends outside of these
	l, errno := t.pairs.within(endsLetter, endsLetter+byTime(end), most)
	if errno != api.OK {
		return nil, errno
	}
	return named(l)
}

// named are the families that entries of ENDS or of SUBJECTS name.
func named(entries []api.Pair) ([]int, api.Errno) {
	var l []int
	for _, p := range entries {
		_, _, id, _, errno := record.ParseIndex(p)
		if errno != api.OK {
			return nil, errno
		}
		l = append(l, id)
	}
	return l, api.OK
}

// members are the IDs of a family's tokens, as they stand in keys, by rising generations.
func (t *Table) members(family int) ([]string, api.Errno) {
	entries, errno := t.pairs.under(membersLetter + byID(family))
	if errno != api.OK {
		return nil, errno
	}
	var l []string
	for _, p := range entries {
		l = append(l, p.Value)
	}
	return l, api.OK
}
