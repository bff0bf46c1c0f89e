package sweep

import (
	"latchkey/api"
	"latchkey/clock"
	"latchkey/family"
	"latchkey/table"
)

// due is a thing that may go: a family, or, if that has no ID, a code; or why it can not be told.
type due struct {
	family api.Family
	code   api.Code
	errno  api.Errno
}

// pile is all that may go: families by rising ends, of one end by rising IDs; codes.
type pile struct {
	families []api.Family
	codes    []api.Code
}

func (l pile) isEmpty() bool { return len(l.families)+len(l.codes) == 0 }

// gathered is all that is due at a table's time, of the families the first ones. Nothing is changed until all has come, for while the goroutine reads the table nobody may change it; and it has ended when nothing comes any more.
func gathered(t *table.Table, retain, most int) (pile, api.Errno) {
	found := make(chan due)
	go find(t, retain, most, found)
	var l pile
	errno := api.OK
	for d := range found {
		switch {
		case d.errno != api.OK:
			errno = d.errno
		case d.family.ID != 0:
			l.families = append(l.families, d.family)
		default:
			l.codes = append(l.codes, d.code)
		}
	}
	if errno != api.OK {
		return pile{}, errno
	}
	return l, api.OK
}

// find sends all that is due, and closes the channel.
func find(t *table.Table, retain, most int, found chan<- due) {
	defer close(found)
	errno := findFamilies(t, retain, most, found)
	if errno == api.OK {
		errno = findCodes(t, retain, found)
	}
	if errno != api.OK {
		found <- due{errno: errno}
	}
}

// findFamilies sends the families that are due. Of those that have ended by now the first one that is not is the end, for all behind it have ended no earlier.
func findFamilies(t *table.Table, retain, most int, found chan<- due) api.Errno {
	ids, errno := t.Ending(t.Now()+1, most)
	if errno != api.OK {
		return errno
	}
	for _, id := range ids {
		f, errno := t.Family(id)
		if errno != api.OK {
			return errno
		}
		if !family.Over(f, retain, t.Now()) {
			break
		}
		found <- due{family: f}
	}
	return api.OK
}

// findCodes sends the codes that are due.
func findCodes(t *table.Table, retain int, found chan<- due) api.Errno {
	l, errno := t.Codes()
	if errno != api.OK {
		return errno
	}
	for _, k := range l {
		if isOver(k, retain, t.Now()) {
			found <- due{code: k}
		}
	}
	return api.OK
}

// isOver: did a code that nobody has redeemed end so long ago that it need not be kept? What is spent goes with its family alone.
func isOver(k api.Code, retain, now int) bool {
	return k.State != api.CodeSpent && now-k.Until >= clock.First(retain)
}
