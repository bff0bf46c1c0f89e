package code_test

import (
	"fmt"
	"strings"
	"testing"

	"latchkey/api"
	"latchkey/code"
)

// wantChallenge is that a text is a verifier, with its challenge, or that it is none; and that the book says so, too.
func wantChallenge(t *testing.T, s string, is bool) {
	t.Helper()
	want, errno := "", api.ErrArg
	if is {
		want, errno = challengeOf(s), api.OK
	}
	if c, e := newBook(0).Challenge(s); c != want || e != errno {
		t.Fatalf("the test is wrong: %.200q", s)
	}
	if c, e := code.Challenge(s); c != want || e != errno {
		t.Fatalf("Challenge(%.200q): %q, %d", s, c, e)
	}
}

// C1: each length.
func TestChallengeLengths(t *testing.T) {
	for n := range 300 {
		wantChallenge(t, many(n, "x"), n >= 43 && n <= 128)
	}
	for _, n := range []int{1 << 10, 1 << 16, 1 << 20} {
		wantChallenge(t, many(n, "x"), false)
	}
}

// C1: each byte, at each place of the shortest verifier and at some of the longest.
func TestChallengeBytes(t *testing.T) {
	for b := range 256 {
		is := strings.IndexByte("abcdefghijklmnopqrstuvwxyzABCDEFGHIJKLMNOPQRSTUVWXYZ0123456789-._~", byte(b)) >= 0
		one := string([]byte{byte(b)})
		for at := range 43 {
			wantChallenge(t, v[:at]+one+v[at+1:], is)
		}
		for _, at := range []int{0, 42, 43, 64, 126, 127} {
			wantChallenge(t, longV[:at]+one+longV[at+1:], is)
		}
		wantChallenge(t, many(43, one), is)
		wantChallenge(t, many(128, one), is)
		wantChallenge(t, many(42, one), false)
		wantChallenge(t, many(129, one), false)
	}
	for _, s := range []string{"é", "ａ", "\u0130", "\u212a", "\xff", "\r\n", "%2d"} { // letters that are none of those, and signs that are read elsewhere
		wantChallenge(t, v+s, false)
		wantChallenge(t, s+v, false)
	}
}

// C1: a challenge is one, and is told of that verifier alone.
func TestChallengeIsOne(t *testing.T) {
	all := map[string]int{}
	for n := range 300 {
		c, errno := code.Challenge(verifier(n))
		if digest, is := challengedBy(c); errno != api.OK || len(c) != 43 || !is || digest != digestOf(verifier(n)) {
			t.Fatalf("%q: %q, %d", verifier(n), c, errno)
		}
		if all[c]++; all[c] > 1 {
			t.Fatalf("%q is told twice", c)
		}
	}
}

// wrongChallenges are texts that are nearly a challenge.
func wrongChallenges() []string {
	l := []string{
		"", "x", v[:42], ofV[:42], ofV[1:], ofV + "A", ofV + "=", ofV + "==", "=" + ofV, ofV + " ", " " + ofV, ofV + "\n", ofV[:20] + "\n" + ofV[20:], ofV[:20] + "\r\n" + ofV[20:],
		ofV[:42] + "=", ofV[:42] + "\x00", ofV[:42] + "é", strings.ReplaceAll(ofV, "_", "/"), strings.ReplaceAll(ofV, "-", "+"), digestOf(v), fmt.Sprintf("%x", digestOf(v)), ofV + ofV, many(100000, "A"), many(86, "A"),
	}
	for _, n := range []int{0, 1, 28, 30, 31, 33, 34, 36, 64} { // the Base64 of so many bytes
		l = append(l, many((4*n+2)/3, "A"))
	}
	for _, last := range "BCDFGHJKLNOPRSTVWXZabdefhijlmnpqrtuvxyz12356790-_" { // signs of which the bits that are left over are not 0
		if strings.IndexRune("AEIMQUYcgkosw048", last) < 0 {
			l = append(l, ofV[:42]+string(last))
		}
	}
	for _, at := range []int{0, 1, 20, 41, 42} {
		for _, sign := range []string{"+", "/", "=", ".", "~", " ", "@", "[", "`", "{", ":", ",", "\x00", "\x7f", "\x80", "\xff"} {
			l = append(l, ofV[:at]+sign+ofV[at+1:])
		}
	}
	return l
}

// C2: what is nearly a challenge is none, as the library sees it, too.
func TestWrongChallenges(t *testing.T) {
	b := newBoth(t)
	b.code(30, 100, 1)
	l := wrongChallenges()
	if len(l) < 120 {
		t.Fatalf("the test is wrong: %d", len(l))
	}
	for _, c := range l {
		if _, is := challengedBy(c); is {
			t.Fatalf("the test is wrong: %q is one", c)
		}
		b.quick(approve("app", "ann", nil, c, 30, 100, secret(2)))
	}
	b.look("behind all")
}

// C2: a challenge of each last sign that has no bits left over, of the least digest and of the greatest, and of a digest that no verifier has.
func TestRightChallenges(t *testing.T) {
	b := newBoth(t)
	var l []string
	for _, last := range "AEIMQUYcgkosw048" {
		l = append(l, ofV[:42]+string(last))
	}
	l = append(l, many(43, "A"), many(42, "_")+"8", many(42, "-")+"4", challengeOf(""))
	for n, c := range l {
		b.want(approve("app", "ann", nil, c, 1, 100+n, secret(n)), api.OK)
		digest, _ := challengedBy(c)
		if k, errno := b.x.Code(1 + n); errno != api.OK || k.Challenge != digest || k.Until != 101+n {
			t.Fatalf("%q: %#v, %d", c, k, errno)
		}
	}
}
