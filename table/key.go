package table

import (
	"strings"

	"latchkey/api"
)

const maxKeyNumber = 1 << 30

func isID(n int) bool { return n >= 1 && n <= api.MaxID }

func isKeyNumber(n int) bool { return n >= 1 && n <= maxKeyNumber }

func isName(s string) bool {
	return len(s) >= 1 && len(s) <= api.MaxName && strings.Trim(s, "abcdefghijklmnopqrstuvwxyz0123456789-_.") == ""
}

// How numbers stand in keys.

func byID(n int) string { return number(8, n) }

func byKeyNumber(n int) string { return number(4, n) }

func byTime(n int) string { return number(6, n) }

// number is a number by so many bytes, its highest first.
func number(size, n int) string {
	b := make([]byte, size)
	for i := range b {
		b[size-1-i] = byte(n >> (8 * i))
	}
	return string(b)
}
