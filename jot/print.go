package jot

import (
	"strconv"
	"strings"

	"latchkey/api"
)

// The digits of sixteen as they are told, each at the place of what it is worth.
const digits = "0123456789abcdef"

// A printer has what was printed up to now.
type printer struct {
	out strings.Builder
}

// put lays bytes down; it gives up with the first one that is too many, however great the value is.
func (p *printer) put(s string) {
	if len(s) > api.MaxJot-p.out.Len() {
		panic(fault{errno: api.ErrJotLong})
	}
	p.out.WriteString(s)
}

// value prints a part, and those within it.
func (p *printer) value(part api.Jot) {
	switch v := open(part).(type) {
	case null:
		p.put("null")
	case flag:
		p.put(strconv.FormatBool(bool(v)))
	case number:
		p.put(strconv.Itoa(int(v)))
	case text:
		p.quoted(string(v))
	case list:
		p.list(v)
	case object:
		p.object(v)
	}
}

func (p *printer) list(items []api.Jot) {
	p.put("[")
	for n, item := range items {
		if n > 0 {
			p.put(",")
		}
		p.value(item)
	}
	p.put("]")
}

func (p *printer) object(o object) {
	p.put("{")
	for n, name := range o.names {
		if n > 0 {
			p.put(",")
		}
		p.quoted(name)
		p.put(":")
		p.value(o.items[n])
	}
	p.put("}")
}

// quoted prints a text, or a name.
func (p *printer) quoted(s string) {
	p.put(`"`)
	from := 0
	for at := range len(s) {
		if other := instead(s[at]); other != "" {
			p.put(s[from:at])
			p.put(other)
			from = at + 1
		}
	}
	p.put(s[from:])
	p.put(`"`)
}

// instead is what stands for a byte of a text; nothing, if the byte stands as it is.
func instead(b byte) string {
	switch b {
	case '"':
		return `\"`
	case '\\':
		return `\\`
	case '\b':
		return `\b`
	case '\t':
		return `\t`
	case '\n':
		return `\n`
	case '\f':
		return `\f`
	case '\r':
		return `\r`
	}
	if b < ' ' {
		return `\u00` + digits[b>>4:][:1] + digits[b&15:][:1]
	}
	return ""
}
