package jot_test

import (
	"strings"
	"unicode/utf16"
	"unicode/utf8"

	"latchkey/api"
)

// A machine reads a text byte by byte, with a state and the brackets that are open: another way than the parser's to say at which byte a text goes wrong.
type machine struct {
	state  int
	open   string     // the brackets
	names  [][]string // for each of them, the names up to now
	word   string     // what must follow
	row    row        // what must follow of a letter
	number int
	digits int
	upper  rune // an upper half that waits for its lower one
	code   rune
	isName bool
	text   string
}

// The states of a machine: what it waits for.
const (
	forValue = iota
	forItemOrEnd
	forNameOrEnd
	forName
	forColon
	behindValue
	inWord
	inMinus
	inZero
	inNumber
	inText
	inLetter
	inEscape
	inDigits
	forBackslash
	forU
)

// forked is a machine that goes its own way.
func (m machine) forked() machine {
	names := make([][]string, len(m.names))
	for n, l := range m.names {
		names[n] = append([]string(nil), l...)
	}
	m.names = names
	return m
}

// eat takes a byte, or says what is wrong with it.
func (m *machine) eat(c byte) api.Errno {
	blank := strings.IndexByte(" \t\n\r", c) >= 0
	switch m.state {
	case forItemOrEnd:
		if c == ']' {
			return m.shut()
		}
		fallthrough
	case forValue:
		if blank {
			return api.OK
		}
		return m.begin(c)
	case forNameOrEnd:
		if c == '}' {
			return m.shut()
		}
		fallthrough
	case forName:
		if blank {
			return api.OK
		}
		m.isName, m.text = true, ""
		return m.step(c == '"', inText)
	case forColon:
		if blank {
			return api.OK
		}
		return m.step(c == ':', forValue)
	case inZero, behindValue:
		return m.behind(c)
	case inNumber:
		if c >= '0' && c <= '9' {
			return m.digit(c)
		}
		return m.behind(c)
	case inMinus:
		if c == '0' {
			return m.step(true, inZero)
		}
		m.number = 0
		if c < '1' || c > '9' {
			return api.ErrJotForm
		}
		return m.digit(c)
	case inWord:
		return m.inWord(c)
	}
	return m.eatText(c)
}

// step goes on to a state, if a byte is the right one.
func (m *machine) step(is bool, state int) api.Errno {
	if !is {
		return api.ErrJotForm
	}
	m.state = state
	return api.OK
}

func (m *machine) inWord(c byte) api.Errno {
	if c != m.word[0] {
		return api.ErrJotForm
	}
	m.word = m.word[1:]
	if m.word == "" {
		m.state = behindValue
	}
	return api.OK
}

func (m *machine) digit(c byte) api.Errno {
	if m.number > (9007199254740991-int(c-'0'))/10 {
		return api.ErrJotValue
	}
	m.number = m.number*10 + int(c-'0')
	return m.step(true, inNumber)
}

// begin takes the first byte of a value.
func (m *machine) begin(c byte) api.Errno {
	for _, word := range []string{"null", "false", "true"} {
		if c == word[0] {
			m.word = word[1:]
			return m.step(true, inWord)
		}
	}
	switch {
	case c == '"':
		m.isName, m.text = false, ""
		return m.step(true, inText)
	case c == '-':
		return m.step(true, inMinus)
	case c == '0':
		return m.step(true, inZero)
	case c >= '1' && c <= '9':
		m.number = 0
		return m.digit(c)
	case c != '[' && c != '{':
		return api.ErrJotForm
	case len(m.open) == 16:
		return api.ErrJotDeep
	}
	m.open += string(c)
	m.names = append(m.names, nil)
	return m.step(true, map[byte]int{'[': forItemOrEnd, '{': forNameOrEnd}[c])
}

// shut ends the last bracket.
func (m *machine) shut() api.Errno {
	m.open = m.open[:len(m.open)-1]
	m.names = m.names[:len(m.names)-1]
	return m.step(true, behindValue)
}

func (m *machine) behind(c byte) api.Errno {
	last := byte(0)
	if m.open != "" {
		last = m.open[len(m.open)-1]
	}
	switch {
	case strings.IndexByte(" \t\n\r", c) >= 0:
		return m.step(true, behindValue)
	case last == '[' && c == ']', last == '{' && c == '}':
		return m.shut()
	case last == '[' && c == ',':
		return m.step(true, forValue)
	}
	return m.step(last == '{' && c == ',', forName)
}

// eatText takes a byte within quotes.
func (m *machine) eatText(c byte) api.Errno {
	switch m.state {
	case inText:
		switch {
		case c == '"':
			return m.endText()
		case c == '\\':
			return m.step(true, inEscape)
		case c < 32:
			return api.ErrJotForm
		}
		for _, r := range rows {
			if c >= r[0][0] && c <= r[0][1] {
				m.row = r
				return m.letter(c)
			}
		}
		return api.ErrJotForm
	case inLetter:
		if c < m.row[0][0] || c > m.row[0][1] {
			return api.ErrJotForm
		}
		return m.letter(c)
	case inEscape:
		if c == 'u' {
			m.code, m.digits = 0, 0
			return m.step(true, inDigits)
		}
		at := strings.IndexByte(`"\/bfnrt`, c)
		if at >= 0 {
			m.text += "\"\\/\b\f\n\r\t"[at : at+1]
		}
		return m.step(at >= 0, inText)
	case forBackslash:
		return m.step(c == '\\', forU)
	case forU:
		m.code, m.digits = 0, 0
		return m.step(c == 'u', inDigits)
	}
	return m.sixteenth(c)
}

func (m *machine) letter(c byte) api.Errno {
	m.text += string([]byte{c})
	m.row = m.row[1:]
	if len(m.row) == 0 {
		return m.step(true, inText)
	}
	return m.step(true, inLetter)
}

func (m *machine) endText() api.Errno {
	if !m.isName {
		return m.step(true, behindValue)
	}
	here := &m.names[len(m.names)-1]
	for _, name := range *here {
		if name == m.text {
			return api.ErrJotName
		}
	}
	*here = append(*here, m.text)
	return m.step(true, forColon)
}

// sixteenth takes a digit of a letter's number: one is wrong, if none of all the numbers that may come of it will do.
func (m *machine) sixteenth(c byte) api.Errno {
	at := strings.IndexByte("0123456789abcdef", strings.ToLower(string(c))[0])
	if at < 0 || c >= 128 {
		return api.ErrJotForm
	}
	m.code = m.code*16 + rune(at)
	m.digits++
	left := 4 * (4 - m.digits)
	found := false
	for n := m.code << left; n < (m.code+1)<<left; n++ {
		found = found || (n >= 0xdc00 && n <= 0xdfff) == (m.upper > 0)
	}
	if !found {
		return api.ErrJotForm
	}
	if m.digits < 4 {
		return api.OK
	}
	switch {
	case m.upper > 0:
		m.text += string(utf16.DecodeRune(m.upper, m.code))
		m.upper = 0
	case m.code >= 0xd800 && m.code <= 0xdbff:
		m.upper = m.code
		return m.step(true, forBackslash)
	default:
		m.text += string(m.code)
	}
	return m.step(true, inText)
}

// done says whether a text may end here.
func (m *machine) done() bool {
	return m.open == "" && (m.state == behindValue || m.state == inZero || m.state == inNumber)
}

// run is what is wrong with a text of at most 4000 bytes, and where.
func run(s string) (api.Errno, int) {
	var m machine
	for at := range len(s) {
		if errno := m.eat(s[at]); errno != api.OK {
			return errno, at
		}
	}
	if !m.done() {
		return api.ErrJotForm, len(s)
	}
	return api.OK, 0
}

// finished is a text that goes on from a beginning, and is taken; nothing, if none is found.
func finished(beginning string) (string, bool) {
	var m machine
	for at := range len(beginning) {
		if m.eat(beginning[at]) != api.OK {
			return "", false
		}
	}
	out := []byte(beginning)
	for !m.done() && len(out) < len(beginning)+5000 {
		next := false
		for _, c := range []byte("\"]}:0dcu\\~\x80\x90\xa0eulras") {
			one := m.forked()
			if one.eat(c) == api.OK {
				m, next = one, true
				out = append(out, c)
				break
			}
		}
		if !next {
			return "", false
		}
	}
	return string(out), m.done() && utf8.Valid(out)
}
