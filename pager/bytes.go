package pager

import (
	"strings"

	"latchkey/codec"
	"latchkey/hash"
)

const checkSize = 4

// filled is a text with noughts behind it, up to so many bytes.
func filled(s string, size int) string {
	return s + strings.Repeat("\x00", size-len(s))
}

// checked is a text with its CRC behind it.
func checked(s string) string {
	w := codec.NewWriter()
	w.Raw(s)
	codec.Numbers(w, checkSize, hash.CRC(s))
	text, _ := w.Done() // a CRC stands by four bytes, whatever it is
	return text
}
