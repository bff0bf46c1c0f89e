package hash

// The masks part the key of the inner digest from that of the outer one.
const (
	outerMask = 92
	innerMask = 54
)

// MAC is HMAC-SHA-256 of the parts, one behind the other, under a key.
func MAC(key string, parts ...string) string {
	if len(key) > blockSize {
		key = Sum(key)
	}
	inner := New()
	inner.Write(masked(key, innerMask))
	for _, p := range parts {
		inner.Write(p)
	}
	return Sum(masked(key, outerMask), inner.Sum())
}

// masked is a key of at most a block, filled up with noughts, each byte xor the mask.
func masked(key string, mask byte) string {
	var b block
	copy(b[:], key)
	for i := range b {
		b[i] ^= mask
	}
	return string(b[:])
}
