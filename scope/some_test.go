package scope_test

import (
	"math/rand"
	"slices"
	"strings"
)

const signs = "abcdefghijklmnopqrstuvwxyz0123456789-_."

// somePool is names of which the lists of one round are drawn, so that they have some in common; some are each other's beginning.
func somePool(r *rand.Rand) []string {
	pool := make([]string, 2+r.Intn(14))
	length := 1 + r.Intn(16)
	for n := range pool {
		name := make([]byte, 1+r.Intn(length))
		for at := range name {
			name[at] = signs[r.Intn(len(signs))]
		}
		pool[n] = string(name)
		if n > 0 && r.Intn(4) == 0 {
			pool[n] = (pool[n-1] + pool[n])[:min(16, len(pool[n-1]+pool[n]))]
		}
	}
	return pool
}

// someNames is names of a pool, in any order, some of them many times.
func someNames(r *rand.Rand, pool []string) []string {
	l := make([]string, r.Intn(12))
	for n := range l {
		l[n] = pool[r.Intn(len(pool))]
	}
	return l
}

// someRising is names of a pool that rise, mostly a scope.
func someRising(r *rand.Rand, pool []string) []string {
	l := someNames(r, pool)
	slices.Sort(l)
	return slices.Compact(l)
}

// someScope is a scope of a pool.
func someScope(r *rand.Rand, pool []string) []string {
	l := someRising(r, pool)
	for !isScope(l) {
		l = slices.Delete(l, 0, 1)
	}
	return l
}

// someList is a list that is a scope, or nearly one.
func someList(r *rand.Rand, pool []string) []string {
	l := someRising(r, pool)
	switch r.Intn(6) {
	case 0:
		return someNames(r, pool)
	case 1:
		if len(l) > 0 {
			n := r.Intn(len(l))
			l[n] = spoilt(r, l[n])
		}
	}
	return l
}

// spoilt is a text with a byte more, or another one, or one less.
func spoilt(r *rand.Rand, s string) string {
	at := r.Intn(len(s) + 1)
	c := string([]byte{byte(r.Intn(256))})
	switch r.Intn(4) {
	case 0:
		return s[:at] + " " + s[at:]
	case 1:
		return s[:at] + s[min(at+1, len(s)):]
	case 2:
		return s[:at] + c + s[min(at+1, len(s)):]
	}
	return s[:at] + c + s[at:]
}

// someText is names as somebody may say them, some of them spoilt.
func someText(r *rand.Rand, pool []string) string {
	s := strings.Join(someNames(r, pool), " ")
	if r.Intn(3) == 0 {
		s = spoilt(r, s)
	}
	return s
}
