package family_test

import (
	"crypto/sha256"
	"encoding/base64"
	"encoding/binary"
	"hash/crc32"
	"math/big"
	"regexp"
	"strings"

	"latchkey/api"
)

// What the chapters say, as the test reads them: it calls none of the program's packages.

var nameForm = regexp.MustCompile(`\A[a-z0-9\-_.]{1,16}\z`)

func isName(s string) bool { return nameForm.MatchString(s) }

func between(n, least, most int) bool { return least <= n && n <= most }

func isTime(n int) bool { return between(n, 0, lastTime) }

func isSpan(n int) bool { return between(n, 1, lastTime) }

func isID(n int) bool { return between(n, 1, lastID) }

func isGen(n int) bool { return between(n, 1, lastGen) }

// isScope is the words of chapter 6.
func isScope(l []string) bool {
	for n, name := range l {
		if !isName(name) || n > 0 && strings.Compare(l[n-1], name) >= 0 {
			return false
		}
	}
	return len(l) <= 8 && len(strings.Join(l, " ")) <= 60
}

// clientOK, familyOK and tokenOK are the last column of chapter 14's table.
func clientOK(c api.Client) bool {
	if !isName(c.Name) || !isScope(c.Scope) || !isSpan(c.Idle) || !isSpan(c.Absolute) || !isSpan(c.Life) || !isTime(c.Grace) {
		return false
	}
	old := c.Old == "" && c.Until == 0
	if c.Public {
		return c.Hash == "" && old
	}
	return len(c.Hash) == 32 && (old || len(c.Old) == 32 && isTime(c.Until))
}

func familyOK(f api.Family) bool {
	if !isID(f.ID) || !isID(f.Token) || f.Code != 0 && !isID(f.Code) || !isName(f.Client) || !isName(f.Subject) || !isScope(f.Scope) {
		return false
	}
	if !isTime(f.Created) || !isTime(f.Used) || f.Used < f.Created || !isSpan(f.Idle) || !isSpan(f.Absolute) || !isTime(f.Grace) || !isGen(f.Gen) {
		return false
	}
	if f.State == 1 {
		return f.Ended == 0
	}
	return between(f.State, 2, 4) && isTime(f.Ended) && f.Ended >= f.Used
}

func tokenOK(k api.Token) bool {
	if !isID(k.ID) || !isID(k.Family) || !isGen(k.Gen) || len(k.Hash) != 32 || !isTime(k.Minted) {
		return false
	}
	if !k.Spent {
		return k.At == 0 && k.Next == 0 && k.Secret == ""
	}
	return isTime(k.At) && k.At >= k.Minted && isID(k.Next) && len(k.Secret) == 24
}

// time is the nearest one.
func time(n int) int {
	switch {
	case n < 0:
		return 0
	case n > lastTime:
		return lastTime
	}
	return n
}

// sum is a time so many seconds later, as if numbers had no end.
func sum(from, seconds int) int {
	n := new(big.Int).Add(big.NewInt(int64(time(from))), big.NewInt(int64(time(seconds))))
	if n.Cmp(big.NewInt(lastTime)) > 0 {
		return lastTime
	}
	return int(n.Int64())
}

// end is chapter 14's.
func end(f api.Family) int {
	if f.State != 1 {
		return time(f.Ended)
	}
	return min(sum(f.Created, f.Absolute), sum(f.Used, f.Idle))
}

func alive(f api.Family, now int) bool { return f.State == 1 && time(now) < end(f) }

// gone is how long a time is behind another one, without an end; below 0, if it is ahead of it.
func gone(now, from int) *big.Int {
	return new(big.Int).Sub(big.NewInt(int64(time(now))), big.NewInt(int64(time(from))))
}

// over is F7.
func over(f api.Family, retain, now int) bool {
	return !alive(f, now) && gone(now, end(f)).Cmp(big.NewInt(int64(time(retain)))) >= 0
}

// textOf is the text of a refresh token.
func textOf(id int, secret string) string {
	body := append(binary.BigEndian.AppendUint64(nil, uint64(id)), secret...)
	body = binary.BigEndian.AppendUint32(body, crc32.ChecksumIEEE(append([]byte("lkr_"), body...)))
	return "lkr_" + base64.RawURLEncoding.EncodeToString(body)
}

// hashOf is what is kept of it.
func hashOf(id int, secret string) string {
	d := sha256.Sum256([]byte(textOf(id, secret)))
	return string(d[:])
}

// verdict is F3, in the order of its words.
func verdict(f api.Family, k api.Token, now int) int {
	if !familyOK(f) || !tokenOK(k) || k.Family != f.ID {
		return 0
	}
	if f.State != 1 {
		return 5
	}
	if !alive(f, now) {
		return 4
	}
	if !k.Spent && k.ID == f.Token && k.Gen == f.Gen {
		return 1
	}
	if !k.Spent {
		return 0
	}
	if since := gone(now, k.At); since.Sign() >= 0 && since.Cmp(big.NewInt(int64(f.Grace))) < 0 {
		return 2
	}
	return 3
}

// birth is what Begin is asked.
type birth struct {
	id, first       int
	client          api.Client
	subject, secret string
	scope           []string
	now             int
}

// born is F1.
func (b birth) born() (api.Family, api.Token, api.Errno) {
	c := b.client
	if !isID(b.id) || !isID(b.first) || !clientOK(c) || !isName(b.subject) || !isScope(b.scope) || len(b.secret) != 24 {
		return api.Family{}, api.Token{}, 1
	}
	f := api.Family{
		ID: b.id, Client: c.Name, Subject: b.subject, Scope: b.scope, Created: time(b.now), Used: time(b.now), Idle: c.Idle, Absolute: c.Absolute, Grace: c.Grace,
		Gen: 1, Token: b.first, State: 1, Ended: 0, Code: 0,
	}
	return f, api.Token{ID: b.first, Family: b.id, Gen: 1, Hash: hashOf(b.first, b.secret), Minted: time(b.now), Spent: false, At: 0, Next: 0, Secret: ""}, 0
}

// turned is F4.
func turned(f api.Family, k api.Token, next int, secret string, now int) (api.Family, api.Token, api.Token, api.Errno) {
	if verdict(f, k, now) != 1 || !isID(next) || time(now) < f.Used || time(now) < k.Minted || len(secret) != 24 {
		return api.Family{}, api.Token{}, api.Token{}, 1
	}
	if f.Gen == lastGen {
		return api.Family{}, api.Token{}, api.Token{}, 153
	}
	g, spent := f, k
	g.Gen = f.Gen + 1
	g.Token = next
	g.Used = time(now)
	spent.Spent = true
	spent.At = time(now)
	spent.Next = next
	spent.Secret = secret
	return g, spent, api.Token{ID: next, Family: f.ID, Gen: f.Gen + 1, Hash: hashOf(next, secret), Minted: time(now)}, 0
}

// finished is F5.
func finished(f api.Family, state, now int) (api.Family, api.Errno) {
	if !familyOK(f) || f.State != 1 || !between(state, 2, 4) || time(now) < f.Used {
		return api.Family{}, 1
	}
	f.State = state
	f.Ended = time(now)
	return f, 0
}

// told is F6.
func told(f api.Family, k api.Token, now int) api.Info {
	if verdict(f, k, now) != 1 {
		return api.Info{}
	}
	return api.Info{Active: true, Client: f.Client, Subject: f.Subject, Scope: f.Scope, Family: f.ID, Issued: k.Minted, End: end(f), Gen: f.Gen}
}
