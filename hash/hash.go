// Package hash is layer 1: SHA-256, HMAC over it, CRC-32. See shared/doc/01-hash.md.
package hash

// Sum is SHA-256 of the parts, one behind the other.
func Sum(parts ...string) string {
	h := New()
	for _, p := range parts {
		h.Write(p)
	}
	return h.Sum()
}

// Same: are two texts the same?
func Same(a, b string) bool {
	if len(a) != len(b) {
		return false
	}
	// All bytes are gone through, so that the time it takes does not tell where two secrets part.
	var unlike byte
	for i := range len(a) {
		unlike |= a[i] ^ b[i]
	}
	return unlike == 0
}

// Hasher takes a text in parts.
type Hasher struct {
	state state
	tail  block // what was taken behind the last whole block stands at its beginning
	size  int
}

// New is a hasher that has taken nothing.
func New() *Hasher { return &Hasher{state: start()} }

// Write takes a part.
func (h *Hasher) Write(s string) {
	for len(s) > 0 {
		n := copy(h.tail[h.size%blockSize:], s)
		s = s[n:]
		h.size += n
		if h.size%blockSize == 0 {
			h.state = mix(h.state, h.tail)
		}
	}
}

// Sum is SHA-256 of all that was taken; more may be taken behind it.
func (h *Hasher) Sum() string {
	filled := *h // the filling must not count as taken
	filled.Write(filling(h.size))
	return digest(filled.state)
}

// Len is how many bytes were taken.
func (h *Hasher) Len() int { return h.size }

// Copy is another hasher that has taken the same.
func (h *Hasher) Copy() *Hasher {
	c := *h
	return &c
}
