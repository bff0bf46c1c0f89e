package grant

import (
	"latchkey/api"
	"latchkey/family"
	"latchkey/scope"
	"latchkey/table"
)

// shown is a token that its client shows, and what that asks for it.
type shown struct {
	table  *table.Table
	client api.Client
	family api.Family
	token  api.Token
	names  []string
	secret string
}

// becomes is what comes of a verdict over it.
func (s shown) becomes(verdict int) func() (api.Issued, api.Errno) {
	switch verdict {
	case api.VerdictFresh:
		return s.next
	case api.VerdictReplay:
		return s.again
	case api.VerdictReuse:
		return s.reused
	case api.VerdictExpired:
		return s.expired
	}
	return s.refused
}

func (s shown) refused() (api.Issued, api.Errno) { return api.Issued{}, api.ErrGrantToken }

func (s shown) expired() (api.Issued, api.Errno) { return s.ends(api.Expired, api.EventExpire) }

func (s shown) reused() (api.Issued, api.Errno) { return s.ends(api.Reused, api.EventReuse) }

// ends lets the family end ahead of the refusal, which must not be answered if that could not be committed.
func (s shown) ends(state, kind int) (api.Issued, api.Errno) {
	if _, errno := ended(s.table, state, kind, s.client.Name, s.family); errno != api.OK {
		return api.Issued{}, errno
	}
	return s.refused()
}

// again is what it gave when it was spent.
func (s shown) again() (api.Issued, api.Errno) {
	if !scope.Within(s.names, s.family.Scope) {
		return api.Issued{}, api.ErrGrantScope
	}
	return issued(s.client, s.family, s.token.Next, s.token.Gen+1, s.names, s.token.Secret)
}

// next is its successor.
func (s shown) next() (api.Issued, api.Errno) {
	if !scope.Within(s.names, s.family.Scope) {
		return api.Issued{}, api.ErrGrantScope
	}
	return committed(s.table, s.rotate)
}

// rotate spends it, in the changes of the table.
func (s shown) rotate() (api.Issued, api.Errno) {
	id, errno := s.table.ID()
	if errno != api.OK {
		return api.Issued{}, errno
	}
	f, spent, fresh, errno := family.Rotate(s.family, s.token, id, s.secret, s.table.Now())
	if errno != api.OK {
		return api.Issued{}, errno
	}
	if errno := put(s.table, api.EventRotate, f, spent, fresh); errno != api.OK {
		return api.Issued{}, errno
	}
	return issued(s.client, f, fresh.ID, fresh.Gen, s.names, s.secret)
}
