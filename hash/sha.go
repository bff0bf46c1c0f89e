package hash

import (
	"math/bits"
	"strings"
)

const blockSize = 64

// state and block are arrays, so that an assignment parts them for good.
type (
	state [8]uint32
	block [blockSize]byte
)

// start is the state ahead of the first block.
func start() state {
	return state{
		0x6a09e667, 0xbb67ae85, 0x3c6ef372, 0xa54ff53a, 0x510e527f, 0x9b05688c, 0x1f83d9ab, 0x5be0cd19,
	}
}

// rounds are the numbers k, one a round.
func rounds() [64]uint32 {
	return [64]uint32{
		0x428a2f98, 0x71374491, 0xb5c0fbcf, 0xe9b5dba5, 0x3956c25b, 0x59f111f1, 0x923f82a4, 0xab1c5ed5,
		0xd807aa98, 0x12835b01, 0x243185be, 0x550c7dc3, 0x72be5d74, 0x80deb1fe, 0x9bdc06a7, 0xc19bf174,
		0xe49b69c1, 0xefbe4786, 0x0fc19dc6, 0x240ca1cc, 0x2de92c6f, 0x4a7484aa, 0x5cb0a9dc, 0x76f988da,
		0x983e5152, 0xa831c66d, 0xb00327c8, 0xbf597fc7, 0xc6e00bf3, 0xd5a79147, 0x06ca6351, 0x14292967,
		0x27b70a85, 0x2e1b2138, 0x4d2c6dfc, 0x53380d13, 0x650a7354, 0x766a0abb, 0x81c2c92e, 0x92722c85,
		0xa2bfe8a1, 0xa81a664b, 0xc24b8b70, 0xc76c51a3, 0xd192e819, 0xd6990624, 0xf40e3585, 0x106aa070,
		0x19a4c116, 0x1e376c08, 0x2748774c, 0x34b0bcb5, 0x391c0cb3, 0x4ed8aa4a, 0x5b9cca4f, 0x682e6ff3,
		0x748f82ee, 0x78a5636f, 0x84c87814, 0x8cc70208, 0x90befffa, 0xa4506ceb, 0xbef9a3f7, 0xc67178f2,
	}
}

// turn is x turned right by n bits.
func turn(x uint32, n int) uint32 { return bits.RotateLeft32(x, -n) }

// words are the 64 words w of a block: its own 16, and those that come of them.
func words(b block) [64]uint32 {
	var w [64]uint32
	for t := range 16 {
		w[t] = uint32(b[4*t])<<24 | uint32(b[4*t+1])<<16 | uint32(b[4*t+2])<<8 | uint32(b[4*t+3])
	}
	for t := 16; t < 64; t++ {
		early, late := w[t-15], w[t-2]
		early = turn(early, 7) ^ turn(early, 18) ^ early>>3
		late = turn(late, 17) ^ turn(late, 19) ^ late>>10
		w[t] = w[t-16] + early + w[t-7] + late
	}
	return w
}

// mix is the state behind a block.
func mix(s state, b block) state {
	w, k, v := words(b), rounds(), s
	for t := range 64 {
		x := v[7] + (turn(v[4], 6) ^ turn(v[4], 11) ^ turn(v[4], 25)) + (v[4]&v[5] ^ ^v[4]&v[6]) + k[t] + w[t]
		y := (turn(v[0], 2) ^ turn(v[0], 13) ^ turn(v[0], 22)) + (v[0]&v[1] ^ v[0]&v[2] ^ v[1]&v[2])
		v = state{x + y, v[0], v[1], v[2], v[3] + x, v[4], v[5], v[6]}
	}
	for i := range s {
		s[i] += v[i]
	}
	return s
}

// filling is what stands behind a text of n bytes up to the end of its last block.
func filling(n int) string {
	noughts := (2*blockSize - 1 - 8 - n%blockSize) % blockSize
	return "\x80" + strings.Repeat("\x00", noughts) + number(8*uint64(n), 8)
}

// digest is a state as bytes.
func digest(s state) string {
	var out strings.Builder
	for _, word := range s {
		out.WriteString(number(uint64(word), 4))
	}
	return out.String()
}

// number is n by so many bytes, the highest first.
func number(n uint64, size int) string {
	out := make([]byte, size)
	for i := range out {
		out[i] = byte(n >> (8 * (size - 1 - i)))
	}
	return string(out)
}
