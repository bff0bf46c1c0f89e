package query_test

import (
	"fmt"
	"math/rand"
	"strings"
	"testing"

	"latchkey/api"
	"latchkey/query"
)

// texts are some that are easily gone wrong with: valid, broken and cut UTF-8 among others.
var texts = []string{
	"", " ", "+", "%", "&", "=", "a", "%41", "a b&c=\xc3\xa4!", "azAZ09-._*", "~+%\x00\xff\x7f",
	"\u00e4", "\u20ac", "\U0001f511", "\ufffd", "\ufeff", // of two, three and four bytes; the rune that stands for none
	"\xc3", "\xa4", "\xe2\x82", "\xf0\x9f\x94", "\xe2\x82a", "a\xf0\x9fb", // cut
	"\xc0\x80", "\xed\xa0\x80", "\xf4\x90\x80\x80", "\xff\xfe\xfd", "\x80\x80\x80", // broken
	"\xef\xbf\xbd\xff\xef\xbf", "\u00e4\xe4\u00e4", "\x00\x01\x1f\x20\x21\x7e\x7f\x80",
}

// someText is a text of up to so many bytes, of any bytes or of those that mean something in a form.
func someText(r *rand.Rand, most int) string {
	const special = "%%%+&= aF09gG*~\x7f\xc3\xa4\xe2\x82\xac"
	b := make([]byte, r.Intn(most+1))
	any := r.Intn(2) == 0
	for n := range b {
		if any {
			b[n] = byte(r.Intn(256))
		} else {
			b[n] = special[r.Intn(len(special))]
		}
	}
	return string(b)
}

// escaped is Q1, byte by byte.
func escaped(s string) string {
	const same = "abcdefghijklmnopqrstuvwxyzABCDEFGHIJKLMNOPQRSTUVWXYZ0123456789-._*"
	out := ""
	for _, b := range []byte(s) {
		switch {
		case strings.IndexByte(same, b) >= 0:
			out += string([]byte{b})
		case b == 32:
			out += "+"
		default:
			out += fmt.Sprintf("%%%02X", b)
		}
	}
	return out
}

// unescaped is Q2, from the left, and at which byte something is wrong.
func unescaped(s string) (string, api.Errno, int) {
	const sixteen = "0123456789abcdefABCDEF"
	var out []byte
	for at := 0; at < len(s); at++ {
		b := s[at]
		switch {
		case b == '%':
			if at+2 >= len(s) || strings.IndexByte(sixteen, s[at+1]) < 0 || strings.IndexByte(sixteen, s[at+2]) < 0 {
				return "", api.ErrQueryEscape, at
			}
			var n int
			fmt.Sscanf(s[at+1:at+3], "%x", &n)
			out = append(out, byte(n))
			at += 2
		case b == '+':
			out = append(out, ' ')
		case b < 33 || b > 126 || b == '&' || b == '=':
			return "", api.ErrQueryByte, at
		default:
			out = append(out, b)
		}
	}
	return string(out), api.OK, 0
}

func wantEscape(t *testing.T, s, want string) {
	t.Helper()
	if got := query.Escape(s); got != want {
		t.Errorf("Escape(%q) = %q, want %q", s, got, want)
	}
}

func wantUnescape(t *testing.T, s, want string, errno api.Errno) {
	t.Helper()
	if got, e := query.Unescape(s); got != want || e != errno {
		t.Errorf("Unescape(%q) = %q, %d, want %q, %d", s, got, e, want, errno)
	}
}

func TestEscapeOfGivenTexts(t *testing.T) {
	wantEscape(t, "", "")
	wantEscape(t, "a b&c=\xc3\xa4!", "a+b%26c%3D%C3%A4%21")
	wantEscape(t, "azAZ09-._*", "azAZ09-._*")
	wantEscape(t, "\x00\x0a\xa0\xaf\xff", "%00%0A%A0%AF%FF")
	wantEscape(t, "\xef\xbf\xbd\xff", "%EF%BF%BD%FF")
	wantEscape(t, "\xe2\x82a", "%E2%82a")
}

func TestEscapeOfEachByte(t *testing.T) {
	for n := range 256 {
		s := string([]byte{byte(n)})
		wantEscape(t, s, escaped(s))
		wantEscape(t, "\xc3"+s+"\xa4", "%C3"+escaped(s)+"%A4")
	}
}

func TestEscapeOfAnyTexts(t *testing.T) {
	for _, s := range texts {
		wantEscape(t, s, escaped(s))
	}
	r := rand.New(rand.NewSource(31))
	for range 3000 {
		s := someText(r, 40)
		wantEscape(t, s, escaped(s))
	}
}

func TestUnescapeOfGivenTexts(t *testing.T) {
	wantUnescape(t, "", "", api.OK)
	wantUnescape(t, "%c3%A4+!", "\xc3\xa4 !", api.OK)
	wantUnescape(t, "%2B%2b%25%26%3D%00%20+", "++%&=\x00  ", api.OK)
	wantUnescape(t, "%2541", "%41", api.OK)
	wantUnescape(t, "~'(!-._*", "~'(!-._*", api.OK)
}

func TestUnescapeOfEachByte(t *testing.T) {
	for n := range 256 {
		s := string([]byte{byte(n)})
		switch {
		case s == "+":
			wantUnescape(t, s, " ", api.OK)
		case s == "%":
			wantUnescape(t, s, "", api.ErrQueryEscape)
		case n < 33 || n > 126 || s == "&" || s == "=":
			wantUnescape(t, s, "", api.ErrQueryByte)
		default:
			wantUnescape(t, s, s, api.OK)
		}
	}
}

func TestUnescapeOfPercentSigns(t *testing.T) {
	wantUnescape(t, "%", "", api.ErrQueryEscape)
	wantUnescape(t, "a%", "", api.ErrQueryEscape)
	for n := range 256 {
		one := string([]byte{byte(n)})
		wantUnescape(t, "%"+one, "", api.ErrQueryEscape)
		for m := range 256 {
			s := "%" + one + string([]byte{byte(m)})
			want, errno, _ := unescaped(s)
			wantUnescape(t, s, want, errno)
		}
	}
	for n := range 256 {
		b := string([]byte{byte(n)})
		wantUnescape(t, fmt.Sprintf("x%%%02xy", n), "x"+b+"y", api.OK)
		wantUnescape(t, fmt.Sprintf("%%%02X%%%02x", n, n), b+b, api.OK)
	}
	// Two signs are the byte, a third one stands for itself.
	wantUnescape(t, "%411", "A1", api.OK)
	wantUnescape(t, "%41%4", "", api.ErrQueryEscape)
	wantUnescape(t, "%%41", "", api.ErrQueryEscape)
	wantUnescape(t, "%4%41", "", api.ErrQueryEscape)
	wantUnescape(t, "%+1", "", api.ErrQueryEscape)
}

func TestUnescapeTellsWhatIsMetFirst(t *testing.T) {
	wantUnescape(t, "a b%", "", api.ErrQueryByte)
	wantUnescape(t, "a%zz b", "", api.ErrQueryEscape)
	wantUnescape(t, "\x7f%", "", api.ErrQueryByte)
	wantUnescape(t, "%\x7f", "", api.ErrQueryEscape)
	wantUnescape(t, "%4=", "", api.ErrQueryEscape)
	wantUnescape(t, "%41=%", "", api.ErrQueryByte)
	wantUnescape(t, "\xc3\xa4%", "", api.ErrQueryByte)
	wantUnescape(t, "%\xc3\xa4", "", api.ErrQueryEscape)
}

func TestUnescapeOfAnyTexts(t *testing.T) {
	for _, s := range texts {
		want, errno, _ := unescaped(s)
		wantUnescape(t, s, want, errno)
	}
	r := rand.New(rand.NewSource(32))
	for range 20000 {
		s := someText(r, 6)
		want, errno, _ := unescaped(s)
		wantUnescape(t, s, want, errno)
	}
}

func TestUnescapeOfEscape(t *testing.T) {
	for _, s := range texts {
		wantUnescape(t, query.Escape(s), s, api.OK)
	}
	r := rand.New(rand.NewSource(33))
	for range 3000 {
		s := someText(r, 60)
		wantUnescape(t, query.Escape(s), s, api.OK)
	}
	long := strings.Repeat("\xf0\x9f\x94\x91 %\xff", 20000)
	wantUnescape(t, query.Escape(long), long, api.OK)
}
