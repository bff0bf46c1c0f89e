package access_test

import (
	"fmt"
	"math/rand"
	"testing"

	"latchkey/access"
	"latchkey/api"
)

// with is the key 3 with something changed in it.
func with(change func(k *api.Key)) api.Key {
	k := three()
	change(&k)
	return k
}

// A3: times just ahead of, at and behind each of Issued, End, From and Until.
func TestVerifyTimes(t *testing.T) {
	around := func(n int) []int { return []int{n - 1, n, n + 1} }
	count := map[api.Errno]int{}
	for _, from := range around(20) {
		for _, until := range append(around(20), around(40)...) {
			for _, end := range []int{20, 21, 40} {
				c := claims()
				c.End = end
				k := with(func(k *api.Key) { k.From, k.Until = from, until })
				s := tokenOf(3, k.Secret, "home", c)
				for _, now := range append(around(20), append(around(end), around(until)...)...) {
					errno := wantVerify(t, []api.Key{k}, "home", s, now)
					count[errno]++
					if taken := from <= 20 && now < until && now >= 20 && now < end; taken != (errno == api.OK) {
						t.Fatalf("From %d, Until %d, End %d, at %d: %d", from, until, end, now, errno)
					}
				}
			}
		}
	}
	if count[api.OK] < 20 || count[api.ErrAccessKey] < 20 || count[api.ErrAccessTime] < 20 {
		t.Fatalf("the test is wrong: %v", count)
	}
}

// A3: a now that is no time counts as the nearest one.
func TestVerifyNearest(t *testing.T) {
	k := with(func(k *api.Key) { k.From, k.Until = 0, lastTime })
	c := claims()
	c.Issued, c.End = 0, 1
	s := tokenOf(3, k.Secret, "home", c)
	for _, now := range []int{least, least + 1, -lastTime, -1, 0} {
		wantErrno(t, "below 0", wantVerify(t, []api.Key{k}, "home", s, now), api.OK)
	}
	wantErrno(t, "at 1", wantVerify(t, []api.Key{k}, "home", s, 1), api.ErrAccessTime)
	c.Issued, c.End = lastTime-1, lastTime
	s = tokenOf(3, k.Secret, "home", c)
	wantErrno(t, "one ahead of the last time", wantVerify(t, []api.Key{k}, "home", s, lastTime-1), api.OK)
	for _, now := range []int{lastTime, lastTime + 1, lastID, most} {
		wantErrno(t, "behind the last time", wantVerify(t, []api.Key{k}, "home", s, now), api.ErrAccessKey)
	}
	k.Until = most // of a key that may not be: now is the last time, and ahead of it
	for _, now := range []int{lastTime, lastTime + 1, lastID, most} {
		wantErrno(t, "behind the last time", wantVerify(t, []api.Key{k}, "home", s, now), api.ErrAccessTime)
	}
}

// A3: it is the first key of the Number that counts, among others, whatever these are.
func TestVerifyFirst(t *testing.T) {
	right, wrong := three(), with(func(k *api.Key) { k.Secret = secret(9) })
	late, over := with(func(k *api.Key) { k.From = 21 }), with(func(k *api.Key) { k.Until = 20 })
	others := []api.Key{{}, {Number: 1, Secret: right.Secret, From: 0, Until: lastTime}, {Number: 4, Secret: right.Secret, From: 10, Until: 100}, {Number: -3, Secret: right.Secret, Until: 100}, {Number: most}}
	for _, c := range []struct {
		first api.Key
		want  api.Errno
	}{{right, api.OK}, {wrong, api.ErrAccessSign}, {late, api.ErrAccessKey}, {over, api.ErrAccessKey}} {
		for _, second := range []api.Key{right, wrong, late, over} {
			for n := range len(others) + 1 {
				l := append(append([]api.Key{}, others[:n]...), c.first)
				l = append(append(l, others[n:]...), second)
				wantErrno(t, fmt.Sprint(l), wantVerify(t, l, "home", example, 20), c.want)
			}
		}
	}
	wantErrno(t, "others", wantVerify(t, others, "home", example, 20), api.ErrAccessKey)
	wantErrno(t, "none", wantVerify(t, []api.Key{}, "home", example, 20), api.ErrAccessKey)
}

// A3: another Secret, or another MAC: each byte of the Secret and each of the MAC.
func TestVerifySign(t *testing.T) {
	for at := range 24 {
		for _, bit := range []byte{1, 2, 16, 128} {
			other := []byte(three().Secret)
			other[at] ^= bit
			k := with(func(k *api.Key) { k.Secret = string(other) })
			wantErrno(t, "another Secret", wantVerify(t, []api.Key{k}, "home", example, 20), api.ErrAccessSign)
		}
	}
	head, body := lettersOf(headOf(3)), lettersOf(claimsOf("home", claims()))
	digest := macOf(three().Secret, head+"."+body)
	for at := range 32 {
		for bit := range 8 {
			other := []byte(digest)
			other[at] ^= 1 << bit
			wantErrno(t, "another MAC", wantVerify(t, []api.Key{three()}, "home", head+"."+body+"."+lettersOf(string(other)), 20), api.ErrAccessSign)
		}
	}
	for _, other := range []string{
		macOf(three().Secret, ""), macOf(three().Secret, head), macOf(three().Secret, body), macOf(three().Secret, head+body), macOf(three().Secret, head+"."+body+"."),
		macOf(three().Secret, headOf(3)+"."+claimsOf("home", claims())), macOf("", head+"."+body), digestOf(head + "." + body), digestOf(three().Secret + head + "." + body), many(32, "\x00"),
	} {
		wantErrno(t, "another MAC", wantVerify(t, []api.Key{three()}, "home", head+"."+body+"."+lettersOf(other), 20), api.ErrAccessSign)
	}
	claimed := claims()
	claimed.Scope = names("admin", "read")
	for _, s := range []string{ // the MAC of what was signed, behind something else
		head + "." + lettersOf(claimsOf("home", claimed)) + "." + lettersOf(digest),
		lettersOf(headOf(4)) + "." + body + "." + lettersOf(digest),
	} {
		wantErrno(t, s, wantVerify(t, []api.Key{three(), {Number: 4, Secret: three().Secret, From: 10, Until: 100}}, "home", s, 20), api.ErrAccessSign)
	}
}

// A3: keys such as may not be count as they are.
func TestVerifyWildKeys(t *testing.T) {
	for _, s := range []string{"", "s", many(23, "s"), many(25, "s"), many(64, "s"), many(65, "s"), many(5000, "s"), many(24, "\x00"), "\xff"} {
		k := with(func(k *api.Key) { k.Secret = s })
		wantErrno(t, "its own", wantVerify(t, []api.Key{k}, "home", tokenOf(3, s, "home", claims()), 20), api.OK)
		wantErrno(t, "another's", wantVerify(t, []api.Key{k}, "home", example, 20), api.ErrAccessSign)
	}
	numbers := []int{least, -lastTime, -1, 0, 19, 20, 21, 39, 40, lastTime - 1, lastTime, lastTime + 1, lastID, most}
	for _, from := range numbers {
		for _, until := range numbers {
			k := with(func(k *api.Key) { k.From, k.Until = from, until })
			for _, now := range numbers {
				wantVerify(t, []api.Key{k}, "home", example, now)
			}
		}
	}
	for _, n := range []int{least, -3, 0, lastKey + 1, lastID, most} { // no text says such a Number
		k := with(func(k *api.Key) { k.Number = n })
		wantErrno(t, "a Number that is none", wantVerify(t, []api.Key{k}, "home", tokenOf(n, k.Secret, "home", claims()), 20), api.ErrAccessForm)
		wantErrno(t, "a Number that is none", wantVerify(t, []api.Key{k}, "home", example, 20), api.ErrAccessKey)
	}
}

// A3: several things wrong at once, in the order in which the promise names them; all combinations.
func TestVerifyInOrder(t *testing.T) {
	for n := range 1 << 6 {
		k, c, issuer, now := three(), claims(), "home", 30
		want := api.OK
		wrong := func(bit int, errno api.Errno, change func()) {
			if n>>bit&1 == 1 {
				if change(); want == api.OK {
					want = errno
				}
			}
		}
		signed := k.Secret
		wrong(0, api.ErrAccessForm, func() { issuer = "work" })
		wrong(1, api.ErrAccessKey, func() { k.Number = 4 })
		wrong(2, api.ErrAccessKey, func() { k.Until = 30 })
		wrong(3, api.ErrAccessKey, func() { k.From = 32 })
		wrong(4, api.ErrAccessSign, func() { signed = secret(1) })
		wrong(5, api.ErrAccessTime, func() { c.End = 30 })
		wantErrno(t, fmt.Sprintf("%06b", n), wantVerify(t, []api.Key{k}, issuer, tokenOf(3, signed, "home", c), now), want)
		if c.End == 30 { // likewise with an Issued behind it
			c.Issued, c.End = 31, 50
			wantErrno(t, fmt.Sprintf("%06b", n), wantVerify(t, []api.Key{k}, issuer, tokenOf(3, signed, "home", c), now), want)
		}
	}
}

// A3: all fields of all claims come out as they went in.
func TestVerifyClaims(t *testing.T) {
	k := with(func(k *api.Key) { k.From, k.Until = 0, lastTime })
	for _, turned := range claimTurns() {
		c := claims()
		if turned.change(&c); !turned.mayBe {
			continue
		}
		s := wantSign(t, k, "home", c)
		got, errno := access.Verify([]api.Key{k}, "home", s, c.Issued)
		if want := map[bool]api.Errno{true: api.OK, false: api.ErrAccessTime}[c.Issued < c.End]; c.Issued < lastTime && errno != want || errno == api.OK && !same(got, c) {
			t.Fatalf("%s: %#v, %d", turned.what, got, errno)
		}
	}
}

// A3: texts, keys and times at random.
func TestVerifyRandom(t *testing.T) {
	r := rand.New(rand.NewSource(3))
	count := map[api.Errno]int{}
	for range 20000 {
		c := claims()
		c.Issued = r.Intn(40)
		c.End = c.Issued + r.Intn(20)
		s := tokenOf(1+r.Intn(4), secret(r.Intn(2)), "home", c)
		if r.Intn(10) == 0 {
			s = mangled(r, s)
		}
		var l []api.Key
		for range r.Intn(6) {
			l = append(l, api.Key{Number: r.Intn(5), Secret: secret(r.Intn(2)), From: r.Intn(40) - 5, Until: drawn(r, r.Intn(80), 100, lastTime, most, -1)})
		}
		count[wantVerify(t, l, drawn(r, "home", "home", "home", "work"), s, drawn(r, c.Issued, c.Issued, r.Intn(80), -1, least, most))]++
	}
	for _, errno := range []api.Errno{api.OK, api.ErrAccessForm, api.ErrAccessKey, api.ErrAccessSign, api.ErrAccessTime} {
		if count[errno] < 100 {
			t.Errorf("the test is wrong: %v", count)
		}
	}
}
