package query

import (
	"strings"
	"unicode/utf8"

	"latchkey/api"
)

// The digits of sixteen as they are told, each at the place of what it is worth.
const digits = "0123456789ABCDEF"

// The least and the greatest byte that may stand in a form.
const (
	least    = 33
	greatest = 126
)

// Escape is a text as it stands in a form.
func Escape(s string) string {
	var out strings.Builder
	escape(&out, s)
	return out.String()
}

// escape lays a text down as it stands in a form.
func escape(out *strings.Builder, s string) {
	for at, r := range s {
		switch {
		case r >= utf8.RuneSelf:
			// What is no rune is gone over as one by the range: so its bytes are asked of the text itself.
			_, size := utf8.DecodeRuneInString(s[at:])
			for n := range size {
				escapeByte(out, s[at+n])
			}
		case r == ' ':
			out.WriteByte('+')
		case plain(r):
			out.WriteByte(byte(r))
		default:
			escapeByte(out, byte(r))
		}
	}
}

// escapeByte lays a byte down by a percent sign and two digits.
func escapeByte(out *strings.Builder, b byte) {
	out.WriteByte('%')
	out.WriteByte(digits[b>>4])
	out.WriteByte(digits[b&15])
}

// plain says whether a rune is told as itself.
func plain(r rune) bool {
	switch {
	case r >= 'a' && r <= 'z', r >= 'A' && r <= 'Z', r >= '0' && r <= '9':
		return true
	}
	return r == '-' || r == '.' || r == '_' || r == '*'
}

// Unescape reads that.
func Unescape(s string) (string, api.Errno) {
	text, errno, _ := unescape(s)
	return text, errno
}

// unescape reads what stands in a form: the text; what is wrong first, and at which byte.
func unescape(s string) (string, api.Errno, int) {
	var out strings.Builder
	next := 0
	for at, r := range s {
		if at < next {
			continue // a digit that was read with its percent sign
		}
		next = at + 1
		switch {
		case r == '+':
			out.WriteByte(' ')
		case r == '%':
			b, ok := readByte(s[at+1:])
			if !ok {
				return "", api.ErrQueryEscape, at
			}
			out.WriteByte(b)
			next = at + 3
		case r < least, r > greatest, r == '&', r == '=':
			return "", api.ErrQueryByte, at
		default:
			out.WriteByte(byte(r))
		}
	}
	return out.String(), api.OK, 0
}

// readByte is the byte that the first two digits of a text say.
func readByte(s string) (byte, bool) {
	if len(s) < 2 {
		return 0, false
	}
	high, low := worth(s[0]), worth(s[1])
	if high < 0 || low < 0 {
		return 0, false
	}
	return byte(high<<4 | low), true
}

// worth is what a digit of sixteen is worth; below 0, if it is none.
func worth(c byte) int {
	if c >= 'a' && c <= 'f' {
		c -= 'a' - 'A'
	}
	return strings.IndexByte(digits, c)
}
