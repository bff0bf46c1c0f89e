package codec

import (
	"strings"

	"latchkey/api"
)

// The signs of each form, each at the place of what it is worth.
const (
	letters   = "ABCDEFGHIJKLMNOPQRSTUVWXYZabcdefghijklmnopqrstuvwxyz0123456789"
	nameSigns = letters + "-_"
	mailSigns = letters + "+/"
	hexSigns  = "0123456789abcdef"
)

// By how many bits a sign stands.
const (
	baseBits = 6
	hexBits  = 4
)

// Base64 is a text by the letters of names and addresses, without signs of filling.
func Base64(s string) string { return spell(s, nameSigns, baseBits) }

// FromBase64 reads that.
func FromBase64(s string) (string, api.Errno) { return unspell(s, nameSigns, baseBits) }

// Standard is a text by the letters of mail, with signs of filling.
func Standard(s string) string {
	return spell(s, mailSigns, baseBits) + strings.Repeat("=", (3-len(s)%3)%3)
}

// FromStandard reads that.
func FromStandard(s string) (string, api.Errno) {
	if len(s)%4 != 0 {
		return "", api.ErrCodecForm
	}
	// At most two are taken off: a third one is no sign, and so is refused below.
	bare := strings.TrimSuffix(strings.TrimSuffix(s, "="), "=")
	return unspell(bare, mailSigns, baseBits)
}

// Hex is a text by digits of sixteen.
func Hex(s string) string { return spell(s, hexSigns, hexBits) }

// FromHex reads that.
func FromHex(s string) (string, api.Errno) { return unspell(s, hexSigns, hexBits) }

// spell tells bytes by signs of so many bits, from the highest bit on; noughts fill up the last one.
func spell(s, signs string, width int) string {
	out := make([]byte, 0, (8*len(s)+width-1)/width)
	bits, have := 0, 0
	for at := range len(s) {
		bits, have = bits<<8|int(s[at]), have+8
		for have >= width {
			have -= width
			out = append(out, signs[bits>>have])
			bits &= 1<<have - 1
		}
	}
	if have > 0 {
		out = append(out, signs[bits<<(width-have)])
	}
	return string(out)
}

// unspell reads what spell tells. The bits behind the last byte must be noughts, and too few for a sign of their own, so that each text has one spelling alone.
func unspell(s, signs string, width int) (string, api.Errno) {
	out := make([]byte, 0, len(s)*width/8)
	bits, have := 0, 0
	for at := range len(s) {
		worth := strings.IndexByte(signs, s[at])
		if worth < 0 {
			return "", api.ErrCodecForm
		}
		bits, have = bits<<width|worth, have+width
		if have >= 8 {
			have -= 8
			out = append(out, byte(bits>>have))
			bits &= 1<<have - 1
		}
	}
	if have >= width || bits != 0 {
		return "", api.ErrCodecForm
	}
	return string(out), api.OK
}
