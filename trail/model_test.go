package trail_test

import (
	"crypto/sha256"
	"encoding/binary"
	"slices"

	"latchkey/api"
)

// This file says the chapter's words once more, as plainly as can be, without a layer of the project: the program is held against it.

func isNameByte(b byte) bool {
	return 'a' <= b && b <= 'z' || '0' <= b && b <= '9' || b == '-' || b == '_' || b == '.'
}

func isNameOrEmpty(s string) bool {
	for _, b := range []byte(s) {
		if !isNameByte(b) {
			return false
		}
	}
	return len(s) <= 16
}

func within(n, from, to int) bool { return from <= n && n <= to }

// eventOK: it may be.
func eventOK(e api.Event) bool {
	return within(e.Number, 1, lastID) && within(e.Time, 0, lastTime) && within(e.Kind, 1, 9) && within(e.Family, 0, lastID) && isNameOrEmpty(e.Who)
}

// chainOK: it may be.
func chainOK(c api.Chain) bool {
	return within(c.Base, 0, lastID) && within(c.Next, c.Base+1, min(c.Base+33, lastID+1)) && len(c.BaseHash) == 32 && len(c.NextHash) == 32
}

// shaLink is the digest behind an event.
func shaLink(hash string, e api.Event) string {
	b := []byte(hash)
	b = append(b, binary.BigEndian.AppendUint64(nil, uint64(e.Time))[2:]...)
	b = append(b, byte(e.Kind))
	b = binary.BigEndian.AppendUint64(b, uint64(e.Family))
	b = append(b, byte(len(e.Who)))
	b = append(b, e.Who...)
	b = append(b, 'e')
	b = binary.BigEndian.AppendUint64(b, uint64(e.Number))
	sum := sha256.Sum256(b)
	return string(sum[:])
}

// shaAlong is the digest behind the last one of a row.
func shaAlong(hash string, l []api.Event) string {
	for _, e := range l {
		hash = shaLink(hash, e)
	}
	return hash
}

// verified is what Verify must answer.
func verified(c api.Chain, l []api.Event) api.Errno {
	if !chainOK(c) || slices.ContainsFunc(l, func(e api.Event) bool { return !eventOK(e) }) {
		return api.ErrTrailField
	}
	number := c.Base
	for _, e := range l {
		number++
		if e.Number != number {
			return api.ErrTrailChain
		}
	}
	if number != c.Next-1 || shaAlong(c.BaseHash, l) != c.NextHash {
		return api.ErrTrailChain
	}
	return api.OK
}

// gone is what Goes must answer.
func gone(was, is api.Chain, l []api.Event) api.Errno {
	errno := verified(is, l)
	if errno == api.ErrTrailField || !chainOK(was) {
		return api.ErrTrailField
	}
	if errno != api.OK {
		return errno
	}
	hash, number := is.BaseHash, is.Base
	if number == was.Next-1 && hash == was.NextHash {
		return api.OK
	}
	for _, e := range l {
		hash, number = shaLink(hash, e), number+1
		if number == was.Next-1 && hash == was.NextHash {
			return api.OK
		}
	}
	return api.ErrTrailChain
}

// plain is a table's trail as a plain list of all events that ever were noted, from number 1 on; so many of them are committed.
type plain struct {
	all       []api.Event
	digests   []string // behind each, and ahead of the first
	committed int
	now       int
	noted     int // the time of the last commit
}

func newPlain() *plain { return &plain{digests: []string{noughts}} }

func (p *plain) see(reading int) {
	p.now = max(p.now, min(max(reading, 0), lastTime))
}

// note is what Note must answer of arguments that may be.
func (p *plain) note(kind, family int, who string) int {
	e := api.Event{Number: len(p.all) + 1, Time: p.now, Kind: kind, Family: family, Who: who}
	p.all = append(p.all, e)
	p.digests = append(p.digests, shaLink(p.digests[len(p.digests)-1], e))
	return e.Number
}

func (p *plain) commit() { p.committed, p.noted = len(p.all), p.now }

// abort forgets what was not committed.
func (p *plain) abort() {
	p.all = p.all[:p.committed:p.committed]
	p.digests = p.digests[: p.committed+1 : p.committed+1]
}

// reopen is that, and the time of the last commit.
func (p *plain) reopen() {
	p.abort()
	p.now = p.noted
}

// read is what Read must tell: the last 32.
func (p *plain) read() (api.Chain, []api.Event) {
	count := len(p.all)
	base := max(0, count-32)
	return api.Chain{Base: base, Next: count + 1, BaseHash: p.digests[base], NextHash: p.digests[count]}, slices.Clone(p.all[base:])
}
