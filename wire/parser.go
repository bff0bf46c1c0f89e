package wire

import (
	"strconv"
	"strings"

	"latchkey/api"
)

// What a parser is at.
const (
	atFirstLine = iota
	atHeaders
	atBody
	atEnd  // all is there
	atOver // something was wrong: it is over
)

// Of a parser that has met no length yet.
const noLength = -1

// A firstLine is what the first line of a message, or of an answer, says.
type firstLine struct {
	method, path string
	status       int
}

// A parser reads one message, or one answer, byte by byte.
type parser struct {
	at      int
	next    func(b byte) api.Errno              // what is done with the next byte
	open    func(line string) (firstLine, bool) // reads a first line
	read    int                                 // how many bytes there were
	first   firstLine
	headers []api.Field
	length  int
	body    string
}

// newParser is one that has read nothing, of what has such a first line.
func newParser(open func(line string) (firstLine, bool)) *parser {
	p := &parser{open: open}
	p.begin()
	return p
}

// begin forgets what was read. Whoever was told of it may still have its lists: so none of their room is taken up again.
func (p *parser) begin() {
	*p = parser{open: p.open, length: noLength}
	p.next = p.lines()
}

// take reads the next byte: what is wrong with it.
func (p *parser) take(b byte) api.Errno {
	p.read++
	errno := p.next(b)
	if errno != api.OK {
		*p = parser{at: atOver}
	}
	return errno
}

// lines is what is done with a byte while lines are read.
func (p *parser) lines() func(b byte) api.Errno {
	var line []byte
	return func(b byte) api.Errno {
		if b == '\n' {
			ended := string(line)
			line = line[:0]
			return p.judge(ended)
		}
		line = append(line, b)
		// The longest line has its carriage return behind it here.
		if len(line) > api.MaxLine+1 {
			return api.ErrWireLong
		}
		return api.OK
	}
}

// rest is what is done with a byte of a body of so many.
func (p *parser) rest(size int) func(b byte) api.Errno {
	body := make([]byte, 0, size)
	return func(b byte) api.Errno {
		body = append(body, b)
		if len(body) == size {
			p.body, p.at = string(body), atEnd
		}
		return api.OK
	}
}

// judge takes what stood ahead of a line feed.
func (p *parser) judge(ended string) api.Errno {
	line, returned := strings.CutSuffix(ended, "\r")
	switch {
	case p.at == atFirstLine:
		return p.judgeFirst(line, returned)
	case returned && line == "":
		p.enterBody()
		return api.OK
	}
	return p.judgeHeader(line, returned)
}

func (p *parser) judgeFirst(line string, returned bool) api.Errno {
	first, is := p.open(line)
	if !returned || !is {
		return api.ErrWireLine
	}
	p.first, p.at = first, atHeaders
	return api.OK
}

func (p *parser) judgeHeader(line string, returned bool) api.Errno {
	name, behind, is := strings.Cut(line, ":")
	if !returned || !is || !isHeaderName(name) || !all(behind, isShown) || alike(name, transferName) {
		return api.ErrWireHeader
	}
	value := strings.Trim(behind, " ")
	if alike(name, lengthName) {
		return p.judgeLength(value)
	}
	if len(p.headers) == api.MaxFields {
		return api.ErrWireLong
	}
	p.headers = append(p.headers, api.Field{Name: name, Value: value})
	return api.OK
}

func (p *parser) judgeLength(value string) api.Errno {
	if p.length != noLength || !isNumber(value) {
		return api.ErrWireLength
	}
	// All are digits: what may still go wrong is that no int holds them.
	length, err := strconv.Atoi(value)
	if err != nil || length > api.MaxBody {
		return api.ErrWireLong
	}
	p.length = length
	return api.OK
}

// enterBody goes behind the empty line.
func (p *parser) enterBody() {
	if p.length <= 0 {
		p.at = atEnd
		return
	}
	p.at = atBody
	p.next = p.rest(p.length)
}

// isNumber says whether these are digits without noughts ahead.
func isNumber(s string) bool {
	return s == "0" || s != "" && s[0] != '0' && all(s, isDigit)
}

// messageLine reads the first line of a message.
func messageLine(line string) (firstLine, bool) {
	method, behind, _ := strings.Cut(line, " ")
	path, end, _ := strings.Cut(behind, " ")
	if !isMethod(method) || !isPath(path) || end != version {
		return firstLine{}, false
	}
	return firstLine{method: method, path: path}, true
}

// answerLine reads the first line of an answer. Its reason is looked at, and not kept.
func answerLine(line string) (firstLine, bool) {
	behind, is := strings.CutPrefix(line, version+" ")
	digits, reason, parted := strings.Cut(behind, " ")
	if !is || !parted || !isNumber(digits) || !all(reason, isShown) {
		return firstLine{}, false
	}
	status, err := strconv.Atoi(digits)
	if err != nil || !isStatus(status) {
		return firstLine{}, false
	}
	return firstLine{status: status}, true
}
