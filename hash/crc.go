package hash

const crcTaps = 0xedb88320

// CRC is the CRC-32 of a text.
func CRC(s string) uint32 {
	register := ^uint32(0)
	for i := range len(s) {
		register ^= uint32(s[i])
		for range 8 {
			register = step(register)
		}
	}
	return ^register
}

// step moves the register on by one bit.
func step(register uint32) uint32 {
	if register&1 == 1 {
		return register>>1 ^ crcTaps
	}
	return register >> 1
}
