package client_test

import (
	"cmp"
	"crypto/sha256"
	"encoding/binary"
	"maps"
	"math/big"
	"slices"

	"latchkey/api"
)

// This file says the chapter's words once more, as plainly as can be, without a layer of the project: the program is held against it. The book keeps passwords, not digests.

// gift is a password that was given, and how long the one ahead of it counts.
type gift struct {
	password string
	until    int
}

// entry is a client as it was handed in, but for whether it is off; and all passwords that it was given.
type entry struct {
	client api.Client
	given  []gift
}

// book has all clients, all events that ever were noted, the time, and the time of the last commit.
type book struct {
	clients map[string]entry
	events  []api.Event
	digests []string // ahead of the first event, and behind each
	now     int
	noted   int
}

func newBook() *book {
	return &book{clients: map[string]entry{}, digests: []string{many(32, "\x00")}}
}

// copied is a book that goes its own way.
func (b *book) copied() *book {
	c := *b
	c.clients, c.events, c.digests = maps.Clone(b.clients), slices.Clone(b.events), slices.Clone(b.digests)
	return &c
}

func digestOf(s string) string {
	sum := sha256.Sum256([]byte(s))
	return string(sum[:])
}

// sum is a time and so many seconds, as if numbers had no end.
func sum(t, seconds int) int {
	n := new(big.Int).Add(big.NewInt(int64(t)), big.NewInt(int64(max(seconds, 0))))
	if n.Cmp(big.NewInt(lastTime)) > 0 {
		return lastTime
	}
	return int(n.Int64())
}

func isNameOK(s string) bool {
	for _, b := range []byte(s) {
		if !('a' <= b && b <= 'z' || '0' <= b && b <= '9' || b == '-' || b == '_' || b == '.') {
			return false
		}
	}
	return len(s) >= 1 && len(s) <= 16
}

func isScopeOK(l []string) bool {
	size := 0
	for n, name := range l {
		if !isNameOK(name) || n > 0 && l[n-1] >= name {
			return false
		}
		size += len(name) + 1
	}
	return len(l) <= 8 && size-1 <= 60
}

func isPasswordOK(s string) bool {
	for _, b := range []byte(s) {
		if b < 33 || b > 126 {
			return false
		}
	}
	return len(s) >= 16 && len(s) <= 64
}

func between(n, from, to int) bool { return from <= n && n <= to }

// isFieldOK: may that be registered?
func isFieldOK(c api.Client, secret string) bool {
	if c.Public && secret != "" || !c.Public && !isPasswordOK(secret) {
		return false
	}
	return isNameOK(c.Name) && isScopeOK(c.Scope) && c.Hash == "" && c.Old == "" && c.Until == 0 &&
		between(c.Idle, 1, lastTime) && between(c.Absolute, 1, lastTime) && between(c.Grace, 0, lastTime) && between(c.Life, 1, lastTime)
}

func (b *book) see(reading int) { b.now = max(b.now, min(max(reading, 0), lastTime)) }

// changed is that a client is so now; it is noted, and committed.
func (b *book) changed(e entry) {
	b.clients[e.client.Name] = e
	note := api.Event{Number: len(b.events) + 1, Time: b.now, Kind: api.EventClient, Who: e.client.Name}
	b.events = append(b.events, note)
	b.digests = append(b.digests, link(b.digests[len(b.digests)-1], note))
	b.noted = b.now
}

// link is the digest behind an event of a client.
func link(digest string, e api.Event) string {
	s := []byte(digest)
	s = append(s, binary.BigEndian.AppendUint64(nil, uint64(e.Time))[2:]...)
	s = append(s, byte(e.Kind), 0, 0, 0, 0, 0, 0, 0, 0, byte(len(e.Who)))
	s = append(s, e.Who...)
	s = append(s, 'e')
	s = binary.BigEndian.AppendUint64(s, uint64(e.Number))
	return digestOf(string(s))
}

// Register is C1.
func (b *book) Register(c api.Client, secret string, now int) api.Errno {
	b.see(now)
	if !isFieldOK(c, secret) {
		return api.ErrClientField
	}
	if _, there := b.clients[c.Name]; there {
		return api.ErrClientThere
	}
	if len(b.clients) == 8 {
		return api.ErrClientMany
	}
	c.Scope = slices.Clone(c.Scope)
	b.changed(entry{c, []gift{{password: secret}}})
	return api.OK
}

// Renew is C2.
func (b *book) Renew(name, secret string, keep, now int) api.Errno {
	b.see(now)
	if !isPasswordOK(secret) {
		return api.ErrClientField
	}
	e, there := b.clients[name]
	if !there {
		return api.ErrClientNone
	}
	if e.client.Public {
		return api.ErrClientField
	}
	e.given = append(slices.Clone(e.given), gift{secret, sum(b.now, keep)})
	b.changed(e)
	return api.OK
}

// Switch is C3.
func (b *book) Switch(name string, off bool, now int) api.Errno {
	b.see(now)
	e, there := b.clients[name]
	if !there {
		return api.ErrClientNone
	}
	if e.client.Off != off {
		e.client.Off = off
		b.changed(e)
	}
	return api.OK
}

// Check is C4.
func (b *book) Check(name, secret string, now int) (api.Client, api.Errno) {
	b.see(now)
	e, there := b.clients[name]
	if !there {
		return api.Client{}, api.ErrClientNone
	}
	if e.client.Off {
		return api.Client{}, api.ErrClientOff
	}
	if !e.letsIn(secret, b.now) {
		return api.Client{}, api.ErrClientSecret
	}
	return e.record(), api.OK
}

// letsIn: the password that was given last, or the one ahead of it, as long as that counts. (A public client was given the empty one.)
func (e entry) letsIn(secret string, now int) bool {
	n := len(e.given) - 1
	return secret == e.given[n].password || n > 0 && secret == e.given[n-1].password && now < e.given[n].until
}

// record is what a table has of a client.
func (e entry) record() api.Client {
	c := e.client
	n := len(e.given) - 1
	if !c.Public {
		c.Hash = digestOf(e.given[n].password)
	}
	if n > 0 {
		c.Old, c.Until = digestOf(e.given[n-1].password), e.given[n].until
	}
	return c
}

// records are all, by rising names.
func (b *book) records() []api.Client {
	var l []api.Client
	for _, e := range b.clients {
		l = append(l, e.record())
	}
	slices.SortFunc(l, func(a, b api.Client) int { return cmp.Compare(a.Name, b.Name) })
	return l
}

// trail is the last 32 events, and the chain to them.
func (b *book) trail() (api.Chain, []api.Event) {
	count := len(b.events)
	base := max(0, count-32)
	return api.Chain{Base: base, Next: count + 1, BaseHash: b.digests[base], NextHash: b.digests[count]}, b.events[base:]
}
