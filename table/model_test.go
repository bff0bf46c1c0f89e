package table_test

import (
	"cmp"
	"maps"
	"regexp"
	"slices"
	"testing"

	"latchkey/api"
	"latchkey/record"
	"latchkey/table"
)

// face is all that may be asked of a table but its pager.
type face interface {
	See(reading int) int
	Now() int
	ID() (int, api.Errno)
	Client(name string) (api.Client, api.Errno)
	Clients() ([]api.Client, api.Errno)
	PutClient(c api.Client) api.Errno
	Family(id int) (api.Family, api.Errno)
	PutFamily(f api.Family) api.Errno
	Remove(family int) api.Errno
	Subject(subject string) ([]int, api.Errno)
	Ending(before, most int) ([]int, api.Errno)
	Token(id int) (api.Token, api.Errno)
	Tokens(family int) ([]api.Token, api.Errno)
	PutToken(k api.Token) api.Errno
	Code(id int) (api.Code, api.Errno)
	Codes() ([]api.Code, api.Errno)
	PutCode(c api.Code) api.Errno
	RemoveCode(id int) api.Errno
	Keys() ([]api.Key, api.Errno)
	PutKey(k api.Key) api.Errno
	RemoveKey(number int) api.Errno
	Chain() (api.Chain, api.Errno)
	PutChain(c api.Chain) api.Errno
	Events() ([]api.Event, api.Errno)
	PutEvent(e api.Event) api.Errno
	RemoveEvent(number int) api.Errno
	Commit() api.Errno
	Abort()
}

var _ face = (*table.Table)(nil)

// lists are plain lists of records, in whatever order.
type lists struct {
	clients  []api.Client
	families []api.Family
	tokens   []api.Token
	codes    []api.Code
	keys     []api.Key
	events   []api.Event
	chains   []api.Chain // one, or none
	next     int
}

func (l lists) copied() lists {
	return lists{slices.Clone(l.clients), slices.Clone(l.families), slices.Clone(l.tokens), slices.Clone(l.codes), slices.Clone(l.keys), slices.Clone(l.events), slices.Clone(l.chains), l.next}
}

// plain is what a table is, by the promises' own words: plain lists of what it has and of what stands, and a time.
type plain struct {
	lists
	stands lists
	now    int
	dead   bool // or in doubt
}

// newPlain is a table of what stands.
func newPlain(l lists, now int) *plain {
	return &plain{lists: l.copied(), stands: l.copied(), now: now}
}

var nameForm = regexp.MustCompile(`\A[a-z0-9\-_.]{1,16}\z`)

func isName(s string) bool { return nameForm.MatchString(s) }

func isID(n int) bool { return 1 <= n && n <= lastID }

// first is the errno of the first one that is so; OK, if none is.
func first(wrong bool, errno api.Errno, dead bool) api.Errno {
	switch {
	case wrong:
		return errno
	case dead:
		return api.ErrDead
	}
	return api.OK
}

// got is the one record that is so.
func got[R any](l []R, errno api.Errno, is func(R) bool) (R, api.Errno) {
	var none R
	if errno != api.OK {
		return none, errno
	}
	if at := slices.IndexFunc(l, is); at >= 0 {
		return l[at], api.OK
	}
	return none, api.ErrTableNone
}

// all are all records that are so, in order.
func all[R any](l []R, errno api.Errno, is func(R) bool, order func(a, b R) int) ([]R, api.Errno) {
	if errno != api.OK {
		return nil, errno
	}
	var some []R
	for _, r := range l {
		if is(r) {
			some = append(some, r)
		}
	}
	slices.SortFunc(some, order)
	return some, api.OK
}

func every[R any](R) bool { return true }

// put has a record in the place of the one that is the same.
func put[R any](l *[]R, errno api.Errno, r R, order func(a, b R) int) api.Errno {
	if errno == api.OK {
		remove(l, errno, func(other R) bool { return order(other, r) == 0 })
		*l = append(*l, r)
	}
	return errno
}

// remove has the records no more that are so.
func remove[R any](l *[]R, errno api.Errno, is func(R) bool) api.Errno {
	if errno == api.OK && !slices.ContainsFunc(*l, is) {
		return api.ErrTableNone
	}
	if errno == api.OK {
		*l = slices.DeleteFunc(*l, is)
	}
	return errno
}

func byName(a, b api.Client) int        { return cmp.Compare(a.Name, b.Name) }
func byFamily(a, b api.Family) int      { return cmp.Compare(a.ID, b.ID) }
func byToken(a, b api.Token) int        { return cmp.Compare(a.ID, b.ID) }
func byGen(a, b api.Token) int          { return cmp.Compare(a.Gen, b.Gen) }
func byCode(a, b api.Code) int          { return cmp.Compare(a.ID, b.ID) }
func byKey(a, b api.Key) int            { return cmp.Compare(a.Number, b.Number) }
func byEvent(a, b api.Event) int        { return cmp.Compare(a.Number, b.Number) }
func theChain(api.Chain, api.Chain) int { return 0 }

// mayBe is whether a record may be, as layer 14 says.
func mayBe[R any](r R, print func(R) (api.Pair, api.Errno)) bool {
	_, errno := print(r)
	return errno == api.OK
}

func (p *plain) See(reading int) int {
	p.now = max(p.now, min(max(reading, 0), lastTime))
	return p.now
}

func (p *plain) Now() int { return p.now }

func (p *plain) ID() (int, api.Errno) {
	if errno := first(false, 0, p.dead); errno != api.OK {
		return 0, errno
	}
	if p.next == lastID+1 {
		return 0, api.ErrTableWorn
	}
	p.next++
	return p.next - 1, api.OK
}

func (p *plain) Client(name string) (api.Client, api.Errno) {
	return got(p.clients, first(!isName(name), api.ErrArg, p.dead), func(c api.Client) bool { return c.Name == name })
}

func (p *plain) Clients() ([]api.Client, api.Errno) {
	return all(p.clients, first(false, 0, p.dead), every, byName)
}

func (p *plain) PutClient(c api.Client) api.Errno {
	return put(&p.clients, first(!mayBe(c, record.PrintClient), api.ErrRecordField, p.dead), c, byName)
}

func (p *plain) Family(id int) (api.Family, api.Errno) {
	return got(p.families, first(!isID(id), api.ErrArg, p.dead), func(f api.Family) bool { return f.ID == id })
}

func (p *plain) PutFamily(f api.Family) api.Errno {
	return put(&p.families, first(!mayBe(f, record.PrintFamily), api.ErrRecordField, p.dead), f, byFamily)
}

func (p *plain) Remove(family int) api.Errno {
	errno := remove(&p.families, first(!isID(family), api.ErrArg, p.dead), func(f api.Family) bool { return f.ID == family })
	if errno == api.OK {
		remove(&p.tokens, errno, func(k api.Token) bool { return k.Family == family })
	}
	return errno
}

func (p *plain) Subject(subject string) ([]int, api.Errno) {
	l, errno := all(p.families, first(!isName(subject), api.ErrArg, p.dead), func(f api.Family) bool { return f.Subject == subject }, byFamily)
	return ids(l), errno
}

func (p *plain) Ending(before, most int) ([]int, api.Errno) {
	order := func(a, b api.Family) int {
		return cmp.Or(cmp.Compare(record.End(a), record.End(b)), cmp.Compare(a.ID, b.ID))
	}
	l, errno := all(p.families, first(false, 0, p.dead), func(f api.Family) bool { return record.End(f) < before }, order)
	if most < 1 {
		return nil, errno
	}
	return ids(l[:min(most, len(l))]), errno
}

func ids(l []api.Family) []int {
	var ids []int
	for _, f := range l {
		ids = append(ids, f.ID)
	}
	return ids
}

func (p *plain) Token(id int) (api.Token, api.Errno) {
	return got(p.tokens, first(!isID(id), api.ErrArg, p.dead), func(k api.Token) bool { return k.ID == id })
}

func (p *plain) Tokens(family int) ([]api.Token, api.Errno) {
	return all(p.tokens, first(!isID(family), api.ErrArg, p.dead), func(k api.Token) bool { return k.Family == family }, byGen)
}

func (p *plain) PutToken(k api.Token) api.Errno {
	errno := first(!mayBe(k, record.PrintToken), api.ErrRecordField, p.dead)
	other := func(o api.Token) bool { return o.ID != k.ID && o.Family == k.Family && o.Gen == k.Gen }
	if errno == api.OK && slices.ContainsFunc(p.tokens, other) {
		return api.ErrTableForm
	}
	return put(&p.tokens, errno, k, byToken)
}

func (p *plain) Code(id int) (api.Code, api.Errno) {
	return got(p.codes, first(!isID(id), api.ErrArg, p.dead), func(c api.Code) bool { return c.ID == id })
}

func (p *plain) Codes() ([]api.Code, api.Errno) {
	return all(p.codes, first(false, 0, p.dead), every, byCode)
}

func (p *plain) PutCode(c api.Code) api.Errno {
	return put(&p.codes, first(!mayBe(c, record.PrintCode), api.ErrRecordField, p.dead), c, byCode)
}

func (p *plain) RemoveCode(id int) api.Errno {
	return remove(&p.codes, first(!isID(id), api.ErrArg, p.dead), func(c api.Code) bool { return c.ID == id })
}

func (p *plain) Keys() ([]api.Key, api.Errno) {
	return all(p.keys, first(false, 0, p.dead), every, byKey)
}

func (p *plain) PutKey(k api.Key) api.Errno {
	return put(&p.keys, first(!mayBe(k, record.PrintKey), api.ErrRecordField, p.dead), k, byKey)
}

func (p *plain) RemoveKey(number int) api.Errno {
	return remove(&p.keys, first(number < 1 || number > lastKey, api.ErrArg, p.dead), func(k api.Key) bool { return k.Number == number })
}

func (p *plain) Chain() (api.Chain, api.Errno) {
	c, errno := got(p.chains, first(false, 0, p.dead), every)
	if errno == api.ErrTableNone {
		return api.Chain{Base: 0, Next: 1, BaseHash: many(32, "\x00"), NextHash: many(32, "\x00")}, api.OK
	}
	return c, errno
}

func (p *plain) PutChain(c api.Chain) api.Errno {
	return put(&p.chains, first(!mayBe(c, record.PrintChain), api.ErrRecordField, p.dead), c, theChain)
}

func (p *plain) Events() ([]api.Event, api.Errno) {
	return all(p.events, first(false, 0, p.dead), every, byEvent)
}

func (p *plain) PutEvent(e api.Event) api.Errno {
	return put(&p.events, first(!mayBe(e, record.PrintEvent), api.ErrRecordField, p.dead), e, byEvent)
}

func (p *plain) RemoveEvent(number int) api.Errno {
	return remove(&p.events, first(!isID(number), api.ErrArg, p.dead), func(e api.Event) bool { return e.Number == number })
}

func (p *plain) Commit() api.Errno {
	errno := first(false, 0, p.dead)
	if errno == api.OK {
		p.stands = p.copied()
	}
	return errno
}

func (p *plain) Abort() { p.lists = p.stands.copied() }

// pairsOf are the pairs of records, by layer 14's words.
func pairsOf[R any](t *testing.T, l []R, print func(R) (api.Pair, api.Errno)) map[string]string {
	t.Helper()
	pairs := map[string]string{}
	for _, r := range l {
		p, errno := print(r)
		wantErrno(t, "print", errno, api.OK)
		pairs[p.Key] = p.Value
	}
	return pairs
}

// records are the pairs of all records.
func (l lists) records(t *testing.T) map[string]string {
	t.Helper()
	pairs := map[string]string{}
	maps.Copy(pairs, pairsOf(t, l.clients, record.PrintClient))
	maps.Copy(pairs, pairsOf(t, l.families, record.PrintFamily))
	maps.Copy(pairs, pairsOf(t, l.tokens, record.PrintToken))
	maps.Copy(pairs, pairsOf(t, l.codes, record.PrintCode))
	maps.Copy(pairs, pairsOf(t, l.keys, record.PrintKey))
	maps.Copy(pairs, pairsOf(t, l.events, record.PrintEvent))
	maps.Copy(pairs, pairsOf(t, l.chains, record.PrintChain))
	return pairs
}

// entries are those of the indexes that the records have, by the table of chapter 14.
func (l lists) entries() map[string]string {
	pairs := map[string]string{}
	for _, f := range l.families {
		pairs["x"+by(6, record.End(f))+by(8, f.ID)] = ""
		pairs["s"+f.Subject+"\x00"+by(8, f.ID)] = ""
	}
	for _, k := range l.tokens {
		pairs["m"+by(8, k.Family)+by(4, k.Gen)] = by(8, k.ID)
	}
	return pairs
}

// pairs are all pairs.
func (l lists) pairs(t *testing.T) map[string]string {
	t.Helper()
	pairs := l.records(t)
	maps.Copy(pairs, l.entries())
	return pairs
}

// taken takes the record of a pair onto a list, if it is one.
func taken[R any](l *[]R, p api.Pair, parse func(api.Pair) (R, api.Errno)) bool {
	r, errno := parse(p)
	if errno == api.OK {
		*l = append(*l, r)
	}
	return errno == api.OK
}

// told are the records of pairs, and whether each pair is that of one, or an entry of an index.
func told(pairs map[string]string) (lists, bool) {
	var l lists
	for key, value := range pairs {
		p := api.Pair{Key: key, Value: value}
		_, _, _, _, errno := record.ParseIndex(p)
		if !taken(&l.clients, p, record.ParseClient) && !taken(&l.families, p, record.ParseFamily) && !taken(&l.tokens, p, record.ParseToken) && !taken(&l.codes, p, record.ParseCode) &&
			!taken(&l.keys, p, record.ParseKey) && !taken(&l.events, p, record.ParseEvent) && !taken(&l.chains, p, record.ParseChain) && errno != api.OK {
			return lists{}, false
		}
	}
	return l, true
}

// belong is whether records belong together, of their next ID and a time, rule by rule of the chapter's Words.
func (l lists) belong(now int) bool {
	return l.few() && l.lines() && l.redeemed() && l.chained() && l.below() && l.by(now)
}

func count[R any](l []R, is func(R) bool) int {
	n := 0
	for _, r := range l {
		if is(r) {
			n++
		}
	}
	return n
}

func each[R any](l []R, is func(R) bool) bool { return count(l, is) == len(l) }

func (l lists) few() bool {
	fresh := count(l.codes, func(c api.Code) bool { return c.State == 1 })
	return len(l.clients) <= 8 && fresh <= 8 && len(l.keys) <= 4
}

func (l lists) lines() bool {
	inFamily := func(k api.Token) bool {
		return slices.ContainsFunc(l.families, func(f api.Family) bool { return f.ID == k.Family })
	}
	return each(l.tokens, inFamily) && each(l.families, l.line)
}

// line is whether the tokens of a family are as they must be.
func (l lists) line(f api.Family) bool {
	own := slices.DeleteFunc(slices.Clone(l.tokens), func(k api.Token) bool { return k.Family != f.ID })
	of := map[int]api.Token{}
	for _, k := range own {
		of[k.Gen] = k
	}
	if len(own) != f.Gen || len(of) != f.Gen {
		return false
	}
	return each(own, func(k api.Token) bool {
		if k.Gen == f.Gen {
			return k.ID == f.Token && !k.Spent
		}
		next, there := of[k.Gen+1]
		return k.Gen < f.Gen && k.Spent && there && k.Next == next.ID
	})
}

func (l lists) redeemed() bool {
	codes := each(l.codes, func(c api.Code) bool {
		return c.State == 1 || slices.ContainsFunc(l.families, func(f api.Family) bool { return f.ID == c.Family && f.Code == c.ID })
	})
	return codes && each(l.families, func(f api.Family) bool {
		return f.Code == 0 || slices.ContainsFunc(l.codes, func(c api.Code) bool { return c.ID == f.Code && c.State == 2 && c.Family == f.ID })
	})
}

func (l lists) chained() bool {
	base, next := 0, 1
	for _, c := range l.chains {
		base, next = c.Base, c.Next
	}
	inside := each(l.events, func(e api.Event) bool { return base < e.Number && e.Number < next })
	return inside && len(l.events) == next-1-base
}

func (l lists) below() bool {
	return each(l.families, func(f api.Family) bool { return f.ID < l.next }) &&
		each(l.tokens, func(k api.Token) bool { return k.ID < l.next }) &&
		each(l.codes, func(c api.Code) bool { return c.ID < l.next })
}

func (l lists) by(now int) bool {
	return each(l.families, func(f api.Family) bool { return f.Created <= now && f.Used <= now && f.Ended <= now }) &&
		each(l.tokens, func(k api.Token) bool { return k.Minted <= now && k.At <= now }) &&
		each(l.keys, func(k api.Key) bool { return k.From <= now }) &&
		each(l.events, func(e api.Event) bool { return e.Time <= now })
}
