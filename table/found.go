package table

import (
	"latchkey/api"
	"latchkey/record"
)

// found are all records that stand, each kind by rising keys; the entries of the indexes that stand, and those that the records have.
type found struct {
	clients  []api.Client
	families []api.Family
	tokens   []api.Token
	codes    []api.Code
	keys     []api.Key
	events   []api.Event
	chains   []api.Chain
	entries  []api.Pair
	due      []api.Pair
}

// shelf takes the pairs whose keys begin with its letter: is a pair one of its own?
type shelf struct {
	letter string
	take   func(p api.Pair) bool
}

// shelves has one for each letter with which a key may begin.
func (l *found) shelves(k kinds) []shelf {
	return []shelf{
		{k.clients.letter, onto(&l.clients, k.clients, &l.due)},
		{k.families.letter, onto(&l.families, k.families, &l.due)},
		{k.tokens.letter, onto(&l.tokens, k.tokens, &l.due)},
		{k.codes.letter, onto(&l.codes, k.codes, &l.due)},
		{k.keys.letter, onto(&l.keys, k.keys, &l.due)},
		{k.events.letter, onto(&l.events, k.events, &l.due)},
		{k.chains.letter, onto(&l.chains, k.chains, &l.due)},
		{membersLetter, l.takeEntry},
		{endsLetter, l.takeEntry},
		{subjectsLetter, l.takeEntry},
	}
}

// onto puts the record of each pair onto a list, and the entries that it has onto another.
func onto[R any](records *[]R, k kind[R], due *[]api.Pair) func(p api.Pair) bool {
	return func(p api.Pair) bool {
		r, errno := k.parse(p)
		if errno != api.OK {
			return false
		}
		entries, errno := k.entries(r)
		*records = append(*records, r)
		*due = append(*due, entries...)
		return errno == api.OK
	}
}

func (l *found) takeEntry(p api.Pair) bool {
	_, _, _, _, errno := record.ParseIndex(p)
	l.entries = append(l.entries, p)
	return errno == api.OK
}
