package limit

import (
	"math"

	"latchkey/api"
)

// isAmount: may a float be a rate, a burst or a cost? What is no number is on neither side of another one.
func isAmount(x float32) bool {
	return x >= 0 && x <= math.MaxFloat32
}

// isName: may a text be a name?
func isName(s string) bool {
	if s == "" || len(s) > api.MaxName {
		return false
	}
	for _, c := range []byte(s) {
		if !isLetter(c) {
			return false
		}
	}
	return true
}

// isLetter: may a byte stand in a name?
func isLetter(c byte) bool {
	return 'a' <= c && c <= 'z' || '0' <= c && c <= '9' || c == '-' || c == '_' || c == '.'
}

// nearest makes a time of any number, so that no difference of two of them can wrap round.
func nearest(n int) int {
	return min(max(n, 0), api.MaxTime)
}
