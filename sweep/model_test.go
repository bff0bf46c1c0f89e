package sweep_test

import (
	"cmp"
	"crypto/sha256"
	"encoding/base64"
	"encoding/binary"
	"hash/crc32"
	"maps"
	"slices"
	"strings"

	"latchkey/api"
)

// This file says the chapter's words once more, and those of the layers 20 and 21, as plainly as can be, without a layer of the project: the program is held against it. The book keeps texts, not digests, and of a family all its tokens in a row.

// slip is a code; the family that came of it, or 0.
type slip struct {
	id                int
	client, subject   string
	scope             []string
	secret, challenge string
	until             int
	family            int
}

func (s slip) text() string { return textOf("lkc_", s.id, s.secret) }

func (s slip) over(now int) bool { return now >= s.until }

// coin is a token: when it was minted; it was spent when the one behind it was minted.
type coin struct {
	id     int
	secret string
	minted int
}

// line is a family with its tokens, one behind the other.
type line struct {
	id                    int
	client, subject       string
	scope                 []string
	created               int
	idle, absolute, grace int
	state, ended, code    int
	coins                 []coin
}

// book has all clients, families and codes, all events that ever were noted, the next ID, the time, and the time of the last commit.
type book struct {
	clients    map[string]api.Client
	lines      map[int]line
	slips      map[int]slip
	base       int // the events up to it were noted ahead of the book
	events     []api.Event
	digests    []string // ahead of the first event, and behind each
	next       int
	now, noted int
	commits    int
}

// newBook is one with these clients, whose trail goes on behind a base.
func newBook(base int, clients ...api.Client) *book {
	b := &book{clients: map[string]api.Client{}, lines: map[int]line{}, slips: map[int]slip{}, base: base, digests: []string{many(32, "\x00")}, next: 1}
	if base > 0 {
		b.digests[0] = digestOf("base")
	}
	for _, c := range clients {
		b.clients[c.Name] = c
	}
	return b
}

// copied is a book that goes its own way.
func (b *book) copied() *book {
	c := *b
	c.clients, c.lines, c.slips = maps.Clone(b.clients), maps.Clone(b.lines), maps.Clone(b.slips)
	c.events, c.digests = slices.Clone(b.events), slices.Clone(b.digests)
	return &c
}

func digestOf(s string) string {
	sum := sha256.Sum256([]byte(s))
	return string(sum[:])
}

// textOf is the text of a token: a refresh token's prefix is lkr_, a code's lkc_.
func textOf(prefix string, id int, secret string) string {
	body := append(binary.BigEndian.AppendUint64(nil, uint64(id)), secret...)
	body = binary.BigEndian.AppendUint32(body, crc32.ChecksumIEEE(append([]byte(prefix), body...)))
	return prefix + base64.RawURLEncoding.EncodeToString(body)
}

func (k coin) text() string { return textOf("lkr_", k.id, k.secret) }

func (l line) last() coin { return l.coins[len(l.coins)-1] }

// end is chapter 14's.
func (l line) end() int {
	if l.state != api.Active {
		return l.ended
	}
	return min(l.created+l.absolute, l.last().minted+l.idle, lastTime)
}

func (l line) alive(now int) bool { return l.state == api.Active && now < l.end() }

// verdict is what the g-th token is worth.
func (l line) verdict(g, now int) int {
	switch {
	case l.state != api.Active:
		return api.VerdictEnded
	case !l.alive(now):
		return api.VerdictExpired
	case g == len(l.coins):
		return api.VerdictFresh
	case now-l.coins[g].minted < l.grace:
		return api.VerdictReplay
	}
	return api.VerdictReuse
}

func isNameOK(s string) bool {
	return len(s) >= 1 && len(s) <= 16 && strings.Trim(s, "abcdefghijklmnopqrstuvwxyz0123456789-_.") == ""
}

func isScopeOK(l []string) bool {
	for n, name := range l {
		if !isNameOK(name) || n > 0 && l[n-1] >= name {
			return false
		}
	}
	return len(l) <= 8 && len(strings.Join(l, " ")) <= 60
}

func isWithin(a, b []string) bool {
	for _, name := range a {
		if !slices.Contains(b, name) {
			return false
		}
	}
	return true
}

func (b *book) see(reading int) { b.now = max(b.now, min(max(reading, 0), lastTime)) }

// note notes an event.
func (b *book) note(kind, family int, who string) {
	e := api.Event{Number: b.base + len(b.events) + 1, Time: b.now, Kind: kind, Family: family, Who: who}
	s := []byte(b.digests[len(b.digests)-1])
	s = append(s, binary.BigEndian.AppendUint64(nil, uint64(e.Time))[2:]...)
	s = append(s, byte(e.Kind))
	s = binary.BigEndian.AppendUint64(s, uint64(e.Family))
	s = append(s, byte(len(e.Who)))
	s = append(s, e.Who...)
	s = append(s, 'e')
	s = binary.BigEndian.AppendUint64(s, uint64(e.Number))
	b.events, b.digests = append(b.events, e), append(b.digests, digestOf(string(s)))
}

// left is how many events may be noted.
func (b *book) left() int { return lastID - b.base - len(b.events) }

func (b *book) commit() { b.noted, b.commits = b.now, b.commits+1 }

// IDs are all families', rising.
func (b *book) ids() []int { return slices.Sorted(maps.Keys(b.lines)) }

func (b *book) familiesOf(subject string) []int {
	var l []int
	for _, id := range b.ids() {
		if b.lines[id].subject == subject {
			l = append(l, id)
		}
	}
	return l
}

func (b *book) subjects() []string {
	all := map[string]int{"nobody": 1}
	for _, l := range b.lines {
		all[l.subject]++
	}
	return slices.Sorted(maps.Keys(all))
}

// find is the family, and the generation, of a text.
func (b *book) find(text string) (line, int) {
	for _, l := range b.lines {
		for n, k := range l.coins {
			if k.text() == text {
				return l, n + 1
			}
		}
	}
	return line{}, 0
}

func isVerifierOK(s string) bool {
	return len(s) >= 43 && len(s) <= 128 && strings.Trim(s, "abcdefghijklmnopqrstuvwxyzABCDEFGHIJKLMNOPQRSTUVWXYZ0123456789-._~") == ""
}

// challengeOf is the Base64 of the digest of a text.
func challengeOf(s string) string { return base64.RawURLEncoding.EncodeToString([]byte(digestOf(s))) }

// challengedBy is what a challenge is the Base64 of; whether it is one.
func challengedBy(s string) (string, bool) {
	if strings.ContainsAny(s, "\r\n") { // the library reads over these
		return "", false
	}
	digest, err := base64.RawURLEncoding.Strict().DecodeString(s)
	return string(digest), err == nil && len(digest) == 32
}

// fresh is how many codes are Fresh and not over.
func (b *book) fresh() int {
	count := 0
	for _, s := range b.slips {
		if s.family == 0 && !s.over(b.now) {
			count++
		}
	}
	return count
}

// isDue: did a family end at least so long ago?
func (l line) isDue(retain, now int) bool { return !l.alive(now) && now-l.end() >= retain }

// isDue: was a code that nobody has redeemed over at least so long ago?
func (s slip) isDue(retain, now int) bool { return s.family == 0 && now-s.until >= retain }

// dueLines are the families that are due, by rising ends, of one end by rising IDs.
func (b *book) dueLines(retain int) []line {
	retain = min(max(retain, 0), lastTime)
	var due []line
	for _, id := range b.ids() {
		if l := b.lines[id]; l.isDue(retain, b.now) {
			due = append(due, l)
		}
	}
	slices.SortStableFunc(due, func(a, b line) int { return cmp.Compare(a.end(), b.end()) })
	return due
}

// dueSlips are the codes that are due.
func (b *book) dueSlips(retain int) []slip {
	retain = min(max(retain, 0), lastTime)
	var due []slip
	for _, id := range b.slipIDs() {
		if s := b.slips[id]; s.isDue(retain, b.now) {
			due = append(due, s)
		}
	}
	return due
}

// Due is S1.
func (b *book) Due(retain, now int) (int, int, api.Errno) {
	b.see(now)
	return len(b.dueLines(retain)), len(b.dueSlips(retain)), api.OK
}

// Run is S2.
func (b *book) Run(retain, most, now int) (api.Swept, api.Errno) {
	b.see(now)
	if most < 1 || most > 16 {
		return api.Swept{}, api.ErrArg
	}
	lines, slips := b.dueLines(retain), b.dueSlips(retain)
	lines = lines[:min(most, len(lines))]
	if b.left() < len(lines) {
		return api.Swept{}, api.ErrTableWorn
	}
	if len(lines)+len(slips) == 0 {
		return api.Swept{}, api.OK
	}
	s := api.Swept{Families: len(lines), Codes: len(slips)}
	for _, l := range lines {
		s.Tokens += len(l.coins)
		if _, there := b.slips[l.code]; there {
			s.Codes++
		}
		delete(b.lines, l.id)
		delete(b.slips, l.code)
		b.note(api.EventSweep, l.id, l.client)
	}
	for _, k := range slips {
		delete(b.slips, k.id)
	}
	b.commit()
	return s, api.OK
}

// Approve is C2.
func (b *book) Approve(client, subject string, scope []string, challenge string, life, now int, secret string) (string, api.Errno) {
	b.see(now)
	digest, right := challengedBy(challenge)
	if !isNameOK(client) || !isNameOK(subject) || !isScopeOK(scope) || !right || len(secret) != 24 {
		return "", api.ErrArg
	}
	c, there := b.clients[client]
	switch {
	case !there:
		return "", api.ErrClientNone
	case c.Off:
		return "", api.ErrClientOff
	case !isWithin(scope, c.Scope):
		return "", api.ErrGrantScope
	case b.fresh() >= 8:
		return "", api.ErrCodeMany
	case b.next > lastID || b.left() < 1:
		return "", api.ErrTableWorn
	}
	if len(scope) == 0 {
		scope = c.Scope
	}
	maps.DeleteFunc(b.slips, func(_ int, s slip) bool { return s.family == 0 && s.over(b.now) })
	until := b.now + min(max(life, 0), lastTime)
	s := slip{id: b.next, client: client, subject: subject, scope: slices.Clone(scope), secret: secret, challenge: digest, until: min(until, lastTime)}
	b.slips[s.id] = s
	b.next++
	b.note(api.EventCode, 0, client)
	b.commit()
	return s.text(), api.OK
}

// slipOf is the code of a text.
func (b *book) slipOf(text string) (slip, bool) {
	for _, s := range b.slips {
		if s.text() == text {
			return s, true
		}
	}
	return slip{}, false
}

// Redeem is C3.
func (b *book) Redeem(client, text, verifier string, now int, secret string) (api.Issued, api.Errno) {
	b.see(now)
	if !isNameOK(client) || len(secret) != 24 {
		return api.Issued{}, api.ErrArg
	}
	if _, there := b.clients[client]; !there {
		return api.Issued{}, api.ErrClientNone
	}
	s, there := b.slipOf(text)
	if !there || s.client != client {
		return api.Issued{}, api.ErrCodeToken
	}
	if s.family != 0 {
		return api.Issued{}, b.again(s)
	}
	if s.over(b.now) {
		return api.Issued{}, api.ErrCodeToken
	}
	if !isVerifierOK(verifier) || digestOf(verifier) != s.challenge {
		return api.Issued{}, api.ErrCodeVerify
	}
	a, errno := b.Begin(s.client, s.subject, s.scope, s.id, secret)
	if errno != api.OK {
		return api.Issued{}, errno
	}
	s.family = a.Family
	b.slips[s.id] = s
	b.commit()
	return a, api.OK
}

// again is a code that is Spent, shown by its client.
func (b *book) again(s slip) api.Errno {
	l, there := b.lines[s.family]
	if !there || l.state != api.Active {
		return api.ErrCodeToken
	}
	if errno := b.finish(l, api.Reused, api.EventReuse, s.client); errno != api.OK {
		return errno
	}
	b.commit()
	return api.ErrCodeToken
}

// Begin is G2.
func (b *book) Begin(client, subject string, scope []string, code int, secret string) (api.Issued, api.Errno) {
	if !isNameOK(client) || !isNameOK(subject) || !isScopeOK(scope) || code < 0 || code > lastID || len(secret) != 24 {
		return api.Issued{}, api.ErrArg
	}
	c, there := b.clients[client]
	if !there {
		return api.Issued{}, api.ErrClientNone
	}
	if c.Off {
		return api.Issued{}, api.ErrClientOff
	}
	if !isWithin(scope, c.Scope) {
		return api.Issued{}, api.ErrGrantScope
	}
	alive := 0
	for _, id := range b.familiesOf(subject) {
		if b.lines[id].alive(b.now) {
			alive++
		}
	}
	if alive >= 4 {
		return api.Issued{}, api.ErrGrantMany
	}
	if b.next > lastID-1 || b.left() < 1 {
		return api.Issued{}, api.ErrTableWorn
	}
	if len(scope) == 0 {
		scope = c.Scope
	}
	k := coin{b.next + 1, secret, b.now}
	l := line{
		id: b.next, client: client, subject: subject, scope: slices.Clone(scope), created: b.now,
		idle: c.Idle, absolute: c.Absolute, grace: c.Grace, state: api.Active, code: code, coins: []coin{k},
	}
	b.next += 2
	b.lines[l.id] = l
	b.note(api.EventIssue, l.id, client)
	return api.Issued{Token: k.text(), Family: l.id, Gen: 1, Scope: l.scope, Subject: subject, Life: c.Life}, api.OK
}

// Issue is G3.
func (b *book) Issue(client, subject string, scope []string, now int, secret string) (api.Issued, api.Errno) {
	b.see(now)
	a, errno := b.Begin(client, subject, scope, 0, secret)
	if errno == api.OK {
		b.commit()
	}
	return a, errno
}

// finish lets a family end, if there is a number for its event.
func (b *book) finish(l line, state, kind int, who string) api.Errno {
	if b.left() < 1 {
		return api.ErrTableWorn
	}
	l.state, l.ended = state, b.now
	b.lines[l.id] = l
	b.note(kind, l.id, who)
	return api.OK
}

// Rotate is G4.
func (b *book) Rotate(client, text string, scope []string, now int, secret string) (api.Issued, api.Errno) {
	b.see(now)
	if !isNameOK(client) || !isScopeOK(scope) || len(secret) != 24 {
		return api.Issued{}, api.ErrArg
	}
	c, there := b.clients[client]
	if !there {
		return api.Issued{}, api.ErrClientNone
	}
	l, g := b.find(text)
	if g == 0 || l.client != client {
		return api.Issued{}, api.ErrGrantToken
	}
	verdict := l.verdict(g, b.now)
	switch verdict {
	case api.VerdictEnded:
		return api.Issued{}, api.ErrGrantToken
	case api.VerdictExpired:
		return b.over(l, api.Expired, api.EventExpire)
	case api.VerdictReuse:
		return b.over(l, api.Reused, api.EventReuse)
	}
	if !isWithin(scope, l.scope) {
		return api.Issued{}, api.ErrGrantScope
	}
	if verdict == api.VerdictFresh {
		if b.next > lastID || b.left() < 1 {
			return api.Issued{}, api.ErrTableWorn
		}
		l.coins = append(slices.Clone(l.coins), coin{b.next, secret, b.now})
		b.next++
		b.lines[l.id] = l
		b.note(api.EventRotate, l.id, client)
		b.commit()
	}
	if len(scope) == 0 {
		scope = l.scope
	}
	return api.Issued{Token: l.coins[g].text(), Family: l.id, Gen: g + 1, Scope: slices.Clone(scope), Subject: l.subject, Life: c.Life}, api.OK
}

// over lets a family end for a token that is refused.
func (b *book) over(l line, state, kind int) (api.Issued, api.Errno) {
	if errno := b.finish(l, state, kind, l.client); errno != api.OK {
		return api.Issued{}, errno
	}
	b.commit()
	return api.Issued{}, api.ErrGrantToken
}

// Revoke is G5.
func (b *book) Revoke(client, text string, now int) api.Errno {
	b.see(now)
	if !isNameOK(client) {
		return api.ErrArg
	}
	if _, there := b.clients[client]; !there {
		return api.ErrClientNone
	}
	l, g := b.find(text)
	if g == 0 || l.client != client || l.state != api.Active {
		return api.OK
	}
	errno := b.finish(l, api.Revoked, api.EventRevoke, client)
	if errno == api.OK {
		b.commit()
	}
	return errno
}

// RevokeAll is G5.
func (b *book) RevokeAll(subject string, now int) (int, api.Errno) {
	b.see(now)
	if !isNameOK(subject) {
		return 0, api.ErrArg
	}
	alive, would := 0, b.copied()
	for _, id := range b.familiesOf(subject) {
		if l := b.lines[id]; l.state == api.Active {
			if l.alive(b.now) {
				alive++
			}
			if errno := would.finish(l, api.Revoked, api.EventRevoke, subject); errno != api.OK {
				return 0, errno
			}
		}
	}
	if len(would.events) > len(b.events) {
		*b = *would
		b.commit()
	}
	return alive, api.OK
}

// Introspect is G6.
func (b *book) Introspect(text string, now int) (api.Info, api.Errno) {
	b.see(now)
	l, g := b.find(text)
	if g == 0 || l.verdict(g, b.now) != api.VerdictFresh {
		return api.Info{}, api.OK
	}
	return api.Info{
		Active: true, Client: l.client, Subject: l.subject, Scope: slices.Clone(l.scope),
		Family: l.id, Issued: l.last().minted, End: l.end(), Gen: g,
	}, api.OK
}

// Switch is layer 19's.
func (b *book) Switch(client string, off bool, now int) api.Errno {
	b.see(now)
	c, there := b.clients[client]
	if !there {
		return api.ErrClientNone
	}
	if c.Off != off {
		c.Off = off
		b.clients[client] = c
		b.note(api.EventClient, 0, client)
		b.commit()
	}
	return api.OK
}

// record is what a table has of a family, and of its tokens.
func (l line) record() (api.Family, []api.Token) {
	f := api.Family{
		ID: l.id, Client: l.client, Subject: l.subject, Scope: l.scope, Created: l.created, Used: l.last().minted,
		Idle: l.idle, Absolute: l.absolute, Grace: l.grace, Gen: len(l.coins), Token: l.last().id, State: l.state, Ended: l.ended, Code: l.code,
	}
	var tokens []api.Token
	for n, k := range l.coins {
		t := api.Token{ID: k.id, Family: l.id, Gen: n + 1, Hash: digestOf(k.text()), Minted: k.minted}
		if n+1 < len(l.coins) {
			next := l.coins[n+1]
			t.Spent, t.At, t.Next, t.Secret = true, next.minted, next.id, next.secret
		}
		tokens = append(tokens, t)
	}
	return f, tokens
}

// record is what a table has of a code.
func (s slip) record() api.Code {
	c := api.Code{
		ID: s.id, Client: s.client, Subject: s.subject, Scope: s.scope, Hash: digestOf(s.text()), Challenge: s.challenge, Until: s.until, State: api.CodeFresh, Family: s.family,
	}
	if s.family != 0 {
		c.State = api.CodeSpent
	}
	return c
}

// slipIDs are all codes', rising.
func (b *book) slipIDs() []int { return slices.Sorted(maps.Keys(b.slips)) }

// everything is what a table has that is as the book.
func (b *book) everything() everything {
	var e everything
	for _, c := range b.clients {
		e.clients = append(e.clients, c)
	}
	slices.SortFunc(e.clients, func(a, b api.Client) int { return cmp.Compare(a.Name, b.Name) })
	for _, id := range b.ids() {
		f, l := b.lines[id].record()
		e.families, e.tokens = append(e.families, f), append(e.tokens, l...)
	}
	for _, id := range b.slipIDs() {
		e.codes = append(e.codes, b.slips[id].record())
	}
	count := len(b.events)
	first := max(0, count-32)
	e.events = b.events[first:]
	e.chain = api.Chain{Base: b.base + first, Next: b.base + count + 1, BaseHash: b.digests[first], NextHash: b.digests[count]}
	e.now = b.now
	return e
}
