package table

import (
	"latchkey/api"
	"latchkey/record"
)

// kind is how the records of one kind are kept.
type kind[R any] struct {
	letter  string // with which their keys begin
	print   func(R) (api.Pair, api.Errno)
	parse   func(api.Pair) (R, api.Errno)
	entries func(R) ([]api.Pair, api.Errno) // of the indexes
}

// kinds has a row for each kind of records.
type kinds struct {
	clients  kind[api.Client]
	families kind[api.Family]
	tokens   kind[api.Token]
	codes    kind[api.Code]
	keys     kind[api.Key]
	events   kind[api.Event]
	chains   kind[api.Chain]
}

func allKinds() kinds {
	return kinds{
		clients:  kind[api.Client]{"c", record.PrintClient, record.ParseClient, noEntries},
		families: kind[api.Family]{"f", record.PrintFamily, record.ParseFamily, record.OfFamily},
		tokens:   kind[api.Token]{"t", record.PrintToken, record.ParseToken, memberEntries},
		codes:    kind[api.Code]{"a", record.PrintCode, record.ParseCode, noEntries},
		keys:     kind[api.Key]{"k", record.PrintKey, record.ParseKey, noEntries},
		events:   kind[api.Event]{"e", record.PrintEvent, record.ParseEvent, noEntries},
		chains:   kind[api.Chain]{"h", record.PrintChain, record.ParseChain, noEntries},
	}
}

func noEntries[R any](R) ([]api.Pair, api.Errno) { return nil, api.OK }

func memberEntries(k api.Token) ([]api.Pair, api.Errno) {
	entry, errno := record.OfToken(k)
	return []api.Pair{entry}, errno
}

// get is the record whose key goes on so behind the letter.
func (k kind[R]) get(s *pairs, name string) (R, api.Errno) {
	var none R
	key := k.letter + name
	value, there, errno := s.get(key)
	if errno != api.OK {
		return none, errno
	}
	if !there {
		return none, api.ErrTableNone
	}
	return k.parse(api.Pair{Key: key, Value: value})
}

// all are all records, by rising keys.
func (k kind[R]) all(s *pairs) ([]R, api.Errno) {
	l, errno := s.under(k.letter)
	if errno != api.OK {
		return nil, errno
	}
	var records []R
	for _, p := range l {
		r, errno := k.parse(p)
		if errno != api.OK {
			return nil, errno
		}
		records = append(records, r)
	}
	return records, api.OK
}

// put keeps a record in the place of the one that had its key, whose entries may be others.
func (k kind[R]) put(s *pairs, r R) api.Errno {
	l, errno := k.laid(r)
	if errno != api.OK {
		return errno
	}
	name := l[0].Key[len(k.letter):]
	if errno := k.remove(s, name); errno != api.OK && errno != api.ErrTableNone {
		return errno
	}
	for _, p := range l {
		s.put(p)
	}
	return api.OK
}

// remove takes a record away, with all its entries.
func (k kind[R]) remove(s *pairs, name string) api.Errno {
	r, errno := k.get(s, name)
	if errno != api.OK {
		return errno
	}
	l, errno := k.laid(r)
	for _, p := range l {
		s.drop(p.Key)
	}
	return errno
}

// laid are all pairs that are kept of a record: its own, and behind that its entries.
func (k kind[R]) laid(r R) ([]api.Pair, api.Errno) {
	p, errno := k.print(r)
	if errno != api.OK {
		return nil, errno
	}
	entries, errno := k.entries(r)
	return append([]api.Pair{p}, entries...), errno
}
