package endpoint

import (
	"strings"

	"latchkey/api"
	"latchkey/wire"
)

// Line is a connection: bytes in, bytes out.
type Line struct {
	endpoint *Endpoint
	reader   *wire.Reader
	over     bool
}

// Feed takes bytes, and gives those of all answers to what is whole by them.
func (l *Line) Feed(s string, now int, secrets []string) string {
	if l.over {
		return ""
	}
	messages, errno := l.reader.Feed(s)
	var out strings.Builder
	for n, m := range messages {
		out.WriteString(printed(l.endpoint.Serve(m, now, nth(secrets, n))))
	}
	if errno != api.OK {
		l.over = true
		out.WriteString(printed(badRequest()))
	}
	return out.String()
}

// nth is the n-th secret; where there is none, nothing can be minted.
func nth(secrets []string, n int) string {
	if n >= len(secrets) {
		return ""
	}
	return secrets[n]
}

// printed is an answer as bytes. None that is given here is refused.
func printed(a api.Answer) string {
	s, _ := wire.PrintAnswer(a)
	return s
}

// Over: is nothing more taken?
func (l *Line) Over() bool { return l.over }
