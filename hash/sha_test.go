package hash

import (
	"math/big"
	"strings"
	"testing"
)

// primes are the first n, from 2 on.
func primes(n int) []int64 {
	var l []int64
	for p := int64(2); len(l) < n; p++ {
		if big.NewInt(p).ProbablyPrime(0) {
			l = append(l, p)
		}
	}
	return l
}

// root is the lowest 32 bits of the greatest whole number whose power is at most p 2^(32 power).
func root(p int64, power int64) uint32 {
	top := new(big.Int).Lsh(big.NewInt(p), uint(32*power))
	r := new(big.Int)
	for bit := 40; bit >= 0; bit-- {
		try := new(big.Int).SetBit(r, bit, 1)
		if new(big.Int).Exp(try, big.NewInt(power), nil).Cmp(top) <= 0 {
			r = try
		}
	}
	return uint32(r.Uint64())
}

func TestNumbers(t *testing.T) {
	for i, p := range primes(8) {
		if want := root(p, 2); start()[i] != want {
			t.Errorf("h(%d) = %08x, want %08x", i, start()[i], want)
		}
	}
	for i, p := range primes(64) {
		if want := root(p, 3); rounds()[i] != want {
			t.Errorf("k(%d) = %08x, want %08x", i, rounds()[i], want)
		}
	}
}

// Texts of many bytes are too great to be laid out, but not their lengths.
func TestFilling(t *testing.T) {
	for _, c := range []struct {
		n, noughts int
		length     string
	}{
		{0, 55, "\x00\x00\x00\x00\x00\x00\x00\x00"},
		{1, 54, "\x00\x00\x00\x00\x00\x00\x00\x08"},
		{55, 0, "\x00\x00\x00\x00\x00\x00\x01\xb8"},
		{56, 63, "\x00\x00\x00\x00\x00\x00\x01\xc0"},
		{63, 56, "\x00\x00\x00\x00\x00\x00\x01\xf8"},
		{64, 55, "\x00\x00\x00\x00\x00\x00\x02\x00"},
		{1<<29 - 1, 56, "\x00\x00\x00\x00\xff\xff\xff\xf8"},
		{1 << 29, 55, "\x00\x00\x00\x01\x00\x00\x00\x00"},
		{1<<61 - 1, 56, "\xff\xff\xff\xff\xff\xff\xff\xf8"},
	} {
		want := "\x80" + strings.Repeat("\x00", c.noughts) + c.length
		if got := filling(c.n); got != want {
			t.Errorf("filling(%d) = %x, want %x", c.n, got, want)
		}
	}
}
