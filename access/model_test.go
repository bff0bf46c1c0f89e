package access_test

import (
	"crypto/hmac"
	"crypto/sha256"
	"encoding/base64"
	"encoding/binary"
	"fmt"
	"regexp"
	"slices"
	"strconv"
	"strings"

	"latchkey/api"
)

// This file says the chapter's words once more, as plainly as can be, without a layer of the project: the program is held against it.

func digestOf(s string) string {
	sum := sha256.Sum256([]byte(s))
	return string(sum[:])
}

func macOf(secret, s string) string {
	m := hmac.New(sha256.New, []byte(secret))
	m.Write([]byte(s))
	return string(m.Sum(nil))
}

func lettersOf(s string) string { return base64.RawURLEncoding.EncodeToString([]byte(s)) }

// bytesOf is what letters say; whether they are just those of some bytes.
func bytesOf(s string) (string, bool) {
	if strings.ContainsAny(s, "\r\n") { // the library reads over these
		return "", false
	}
	l, err := base64.RawURLEncoding.Strict().DecodeString(s)
	return string(l), err == nil
}

func headOf(number int) string {
	return fmt.Sprintf(`{"alg":"HS256","kid":"%d","typ":"at+jwt"}`, number)
}

func claimsOf(issuer string, c api.Claims) string {
	return fmt.Sprintf(`{"client_id":"%s","exp":%d,"fam":%d,"iat":%d,"iss":"%s","jti":%d,"scope":"%s","sub":"%s"}`,
		c.Client, c.End, c.Family, c.Issued, issuer, c.Number, strings.Join(c.Scope, " "), c.Subject)
}

// underOf is a head and a claims' text, signed under a secret.
func underOf(secret, head, claims string) string {
	ahead := lettersOf(head) + "." + lettersOf(claims)
	return ahead + "." + lettersOf(macOf(secret, ahead))
}

// tokenOf is the token of a key, an issuer and claims that may be.
func tokenOf(number int, secret, issuer string, c api.Claims) string {
	return underOf(secret, headOf(number), claimsOf(issuer, c))
}

func isNameOK(s string) bool {
	return len(s) >= 1 && len(s) <= 16 && strings.Trim(s, "abcdefghijklmnopqrstuvwxyz0123456789-_.") == ""
}

func isScopeOK(l []string) bool {
	for n, name := range l {
		if !isNameOK(name) || n > 0 && l[n-1] >= name {
			return false
		}
	}
	return len(l) <= 8 && len(strings.Join(l, " ")) <= 60
}

func isClaimsOK(c api.Claims) bool {
	return isNameOK(c.Client) && isNameOK(c.Subject) && isScopeOK(c.Scope) &&
		c.Family >= 1 && c.Family <= lastNumber && c.Number >= 1 && c.Number <= lastNumber &&
		c.Issued >= 0 && c.Issued <= lastTime && c.End >= c.Issued && c.End <= lastTime
}

func isKeyOK(k api.Key) bool {
	return k.Number >= 1 && k.Number <= lastKey && len(k.Secret) == 24 && k.From >= 0 && k.From <= k.Until && k.Until <= lastTime
}

// The forms of a head and of a claims' text. The numbers in them have no 0 ahead, but 0 itself.
var (
	headForm   = regexp.MustCompile(`^\{"alg":"HS256","kid":"([1-9][0-9]*)","typ":"at\+jwt"\}$`)
	claimsForm = regexp.MustCompile(`^\{"client_id":"([^"]*)","exp":(0|[1-9][0-9]*),"fam":([1-9][0-9]*),"iat":(0|[1-9][0-9]*),"iss":"([^"]*)","jti":([1-9][0-9]*),"scope":"([^"]*)","sub":"([^"]*)"\}$`)
)

// numberOf is what digits say; of too many the greatest number, which may be nowhere.
func numberOf(digits string) int {
	n, _ := strconv.Atoi(digits)
	return n
}

// readOf is A2.
func readOf(issuer, s string) (api.Claims, int, bool) {
	pieces := strings.SplitN(s, ".", 4)
	if len(pieces) != 3 {
		return api.Claims{}, 0, false
	}
	var said [3]string
	for n, piece := range pieces {
		is := false
		if said[n], is = bytesOf(piece); !is {
			return api.Claims{}, 0, false
		}
	}
	head, body := headForm.FindStringSubmatch(said[0]), claimsForm.FindStringSubmatch(said[1])
	if head == nil || body == nil || len(said[2]) != 32 || body[5] != issuer || !isNameOK(issuer) {
		return api.Claims{}, 0, false
	}
	c := api.Claims{
		Client: body[1], Subject: body[8], Family: numberOf(body[3]), Number: numberOf(body[6]), Issued: numberOf(body[4]), End: numberOf(body[2]),
	}
	if body[7] != "" {
		c.Scope = strings.Split(body[7], " ")
	}
	if number := numberOf(head[1]); number <= lastKey && isClaimsOK(c) {
		return c, number, true
	}
	return api.Claims{}, 0, false
}

func nearest(n int) int { return min(max(n, 0), lastTime) }

// verifyOf is A3.
func verifyOf(keys []api.Key, issuer, s string, now int) (api.Claims, api.Errno) {
	now = nearest(now)
	c, number, is := readOf(issuer, s)
	if !is {
		return api.Claims{}, api.ErrAccessForm
	}
	for _, k := range keys {
		if k.Number != number {
			continue
		}
		last := strings.LastIndex(s, ".")
		switch {
		case now >= k.Until || c.Issued < k.From:
			return api.Claims{}, api.ErrAccessKey
		case s[last+1:] != lettersOf(macOf(k.Secret, s[:last])):
			return api.Claims{}, api.ErrAccessSign
		case now < c.Issued || now >= c.End:
			return api.Claims{}, api.ErrAccessTime
		}
		return c, api.OK
	}
	return api.Claims{}, api.ErrAccessKey
}

// currentOf is A4: of those that sign the first one that no other one goes ahead of.
func currentOf(keys []api.Key, now int) (api.Key, bool) {
	now = nearest(now)
	l := slices.DeleteFunc(slices.Clone(keys), func(k api.Key) bool { return k.From > now || k.Until <= now })
	if len(l) == 0 {
		return api.Key{}, false
	}
	slices.SortStableFunc(l, func(a, b api.Key) int {
		switch {
		case a.From > b.From || a.From == b.From && a.Number > b.Number:
			return -1
		case a.From == b.From && a.Number == b.Number:
			return 0
		}
		return 1
	})
	return l[0], true
}

// everything is all that a table has; the next ID; the time, and that of the last commit.
type everything struct {
	clients          []api.Client
	families         []api.Family
	tokens           []api.Token
	codes            []api.Code
	keys             []api.Key
	chain            api.Chain
	events           []api.Event
	next, now, noted int
}

func (e *everything) see(reading int) { e.now = max(e.now, nearest(reading)) }

// behind is the digest behind an event, whose forerunner's is h.
func behind(h string, e api.Event) string {
	s := []byte(h)
	s = append(s, binary.BigEndian.AppendUint64(nil, uint64(e.Time))[2:]...)
	s = append(s, byte(e.Kind))
	s = binary.BigEndian.AppendUint64(s, uint64(e.Family))
	s = append(s, byte(len(e.Who)))
	s = append(s, e.Who...)
	s = append(s, 'e')
	s = binary.BigEndian.AppendUint64(s, uint64(e.Number))
	return digestOf(string(s))
}

// note notes that a key was made.
func (e *everything) note() {
	event := api.Event{Number: e.chain.Next, Time: e.now, Kind: api.EventKey}
	e.events = append(slices.Clone(e.events), event)
	e.chain.Next, e.chain.NextHash = e.chain.Next+1, behind(e.chain.NextHash, event)
	if len(e.events) > 32 {
		e.chain.Base, e.chain.BaseHash = e.chain.Base+1, behind(e.chain.BaseHash, e.events[0])
		e.events = e.events[1:]
	}
}

// NewKey is A5.
func (e *everything) NewKey(secret string, keep, now int) (int, api.Errno) {
	e.see(now)
	var l []api.Key
	greatest := 0
	for _, k := range e.keys {
		greatest = max(greatest, k.Number)
		if k.Until > e.now {
			l = append(l, k)
		}
	}
	switch {
	case len(secret) != 24:
		return 0, api.ErrArg
	case len(l) >= 4:
		return 0, api.ErrAccessMany
	case greatest == lastKey || e.chain.Next > lastID:
		return 0, api.ErrTableWorn
	}
	for n, k := range l {
		if k.Until == lastTime {
			l[n].Until = min(e.now+nearest(keep), lastTime)
		}
	}
	e.keys = append(l, api.Key{Number: greatest + 1, Secret: secret, From: e.now, Until: lastTime})
	e.note()
	e.noted = e.now
	return greatest + 1, api.OK
}

// isAlive: is the family of an ID there, and alive?
func (e *everything) isAlive(id int) bool {
	for _, f := range e.families {
		if f.ID == id {
			return f.State == api.Active && e.now < min(f.Created+f.Absolute, f.Used+f.Idle, lastTime)
		}
	}
	return false
}

// Worth is A6.
func (e *everything) Worth(issuer, s string, now int) api.Info {
	e.see(now)
	c, errno := verifyOf(e.keys, issuer, s, e.now)
	if errno != api.OK || !e.isAlive(c.Family) {
		return api.Info{}
	}
	return api.Info{Active: true, Client: c.Client, Subject: c.Subject, Scope: c.Scope, Family: c.Family, Issued: c.Issued, End: c.End}
}
