package jot

import (
	"slices"
	"strings"
	"unicode/utf8"

	"latchkey/api"
)

// The halves of a letter that stands by two numbers: an upper one, right behind it a lower one.
const (
	upperHalf = 0xd800
	lowerHalf = 0xdc00
	pastHalf  = 0xe000
	pairs     = 0x10000 // the number of the first letter that stands so
)

// A parser reads a text from its beginning. At each byte all ahead of it may go on to a text that is taken: so where it gives up is the place.
type parser struct {
	text string
	at   int
}

// fail gives up at the byte that is in hand.
func (p *parser) fail(errno api.Errno) {
	panic(fault{errno: errno, at: p.at})
}

// look is the byte in hand. At the end that is 0, which may stand nowhere in a text, so that both are refused alike.
func (p *parser) look() byte {
	if p.at == len(p.text) {
		return 0
	}
	return p.text[p.at]
}

// take goes past a byte, if it is in hand.
func (p *parser) take(b byte) bool {
	if p.look() != b {
		return false
	}
	p.at++
	return true
}

// want goes past a byte that must be in hand.
func (p *parser) want(b byte) {
	if !p.take(b) {
		p.fail(api.ErrJotForm)
	}
}

func (p *parser) blanks() {
	for p.take(' ') || p.take('\t') || p.take('\n') || p.take('\r') {
	}
}

// whole reads all of the text.
func (p *parser) whole() api.Jot {
	p.blanks()
	v := p.value(0)
	p.blanks()
	if p.at < len(p.text) {
		p.fail(api.ErrJotForm)
	}
	return closed(v)
}

// value reads what stands within so many lists and objects.
func (p *parser) value(deep int) value {
	switch p.look() {
	case 'n':
		p.word("null")
		return null{}
	case 'f':
		p.word("false")
		return flag(false)
	case 't':
		p.word("true")
		return flag(true)
	case '"':
		s := p.letters()
		p.want('"')
		return text(s)
	case '[':
		return p.list(deep)
	case '{':
		return p.object(deep)
	}
	return p.number()
}

func (p *parser) word(letters string) {
	for n := range len(letters) {
		p.want(letters[n])
	}
}

func (p *parser) number() number {
	sign := 1
	if p.take('-') {
		sign = -1
	}
	if p.take('0') {
		return 0
	}
	if !isDigit(p.look()) {
		p.fail(api.ErrJotForm)
	}
	n := 0
	for ; isDigit(p.look()); p.at++ {
		n = 10*n + int(p.look()-'0')
		if n > api.MaxNumber {
			p.fail(api.ErrJotValue)
		}
	}
	return number(sign * n)
}

func isDigit(c byte) bool { return c >= '0' && c <= '9' }

// enter goes past the bracket of a list or an object that stands within so many others.
func (p *parser) enter(deep int) {
	if deep == api.MaxDeep {
		p.fail(api.ErrJotDeep)
	}
	p.at++
	p.blanks()
}

// more goes past what stands behind an item: the bracket that ends them, or what is ahead of the next one.
func (p *parser) more(end byte) bool {
	p.blanks()
	if p.take(end) {
		return false
	}
	p.want(',')
	p.blanks()
	return true
}

func (p *parser) list(deep int) list {
	p.enter(deep)
	if p.take(']') {
		return nil
	}
	var items list
	for more := true; more; more = p.more(']') {
		items = append(items, closed(p.value(deep+1)))
	}
	return items
}

func (p *parser) object(deep int) object {
	p.enter(deep)
	var o object
	if p.take('}') {
		return o
	}
	for more := true; more; more = p.more('}') {
		name := p.letters()
		place, there := slices.BinarySearch(o.names, name)
		if there {
			p.fail(api.ErrJotName)
		}
		p.want('"')
		p.blanks()
		p.want(':')
		p.blanks()
		item := closed(p.value(deep + 1))
		o.names = slices.Insert(o.names, place, name)
		o.items = slices.Insert(o.items, place, item)
	}
	return o
}

// letters reads a text, or a name, up to the quote that ends it: whether a name may end there, its object says.
func (p *parser) letters() string {
	p.want('"')
	var out strings.Builder
	for p.look() != '"' {
		if p.take('\\') {
			out.WriteRune(p.escape())
		} else {
			out.WriteString(p.letter())
		}
	}
	return out.String()
}

// letter reads a letter of UTF-8.
func (p *parser) letter() string {
	if p.look() < ' ' {
		p.fail(api.ErrJotForm)
	}
	rest := p.text[p.at:]
	if r, size := utf8.DecodeRuneInString(rest); r != utf8.RuneError || size > 1 {
		p.at += size
		return rest[:size]
	}
	// As long as a letter may still come of them, its first bytes are told not to be full.
	for n := 1; n <= len(rest) && !utf8.FullRuneInString(rest[:n]); n++ {
		p.at++
	}
	p.fail(api.ErrJotForm)
	return ""
}

// escape reads what stands behind a backslash: the letter's number.
func (p *parser) escape() rune {
	if p.take('u') {
		return p.byNumber()
	}
	c := p.look()
	switch c {
	case '"', '\\', '/':
	case 'b':
		c = '\b'
	case 'f':
		c = '\f'
	case 'n':
		c = '\n'
	case 'r':
		c = '\r'
	case 't':
		c = '\t'
	default:
		p.fail(api.ErrJotForm)
	}
	p.at++
	return rune(c)
}

// byNumber reads the digits of a letter's number: four, or those of its two halves.
func (p *parser) byNumber() rune {
	r := p.fourDigits(false)
	if r < upperHalf || r >= pastHalf {
		return r
	}
	p.want('\\')
	p.want('u')
	return pairs + (r-upperHalf)<<10 + p.fourDigits(true) - lowerHalf
}

// fourDigits reads a number that is a lower half, or is none. That is told by the first two digits, and wrong at the first one that can not lead there.
func (p *parser) fourDigits(lower bool) rune {
	var r rune
	for place := range 4 {
		d := worth(p.look())
		if d < 0 {
			p.fail(api.ErrJotForm)
		}
		r = r<<4 | rune(d)
		if place == 0 && lower && r != lowerHalf>>12 {
			p.fail(api.ErrJotForm)
		}
		if place == 1 && lower != (r >= lowerHalf>>8 && r < pastHalf>>8) {
			p.fail(api.ErrJotForm)
		}
		p.at++
	}
	return r
}

// worth is what a digit of sixteen is worth; below 0, if it is none.
func worth(c byte) int {
	if c >= 'A' && c <= 'F' {
		c += 'a' - 'A'
	}
	return strings.IndexByte(digits, c)
}
