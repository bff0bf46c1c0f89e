package token_test

import (
	"math"
	"math/rand"
	"strings"
	"testing"

	"latchkey/api"
	"latchkey/token"
)

const (
	least  = math.MinInt
	most   = math.MaxInt
	lastID = 1 << 62
)

// The texts of example 1.
const (
	refresh = "lkr_AAAAAAAAAAdzc3Nzc3Nzc3Nzc3Nzc3Nzc3Nzc3Nzc3O2-bqv"
	grant   = "lkc_AAAAAAAAAAdzc3Nzc3Nzc3Nzc3Nzc3Nzc3Nzc3Nzc3O3zfI6"
)

// signs are the alphabet of what stands behind a prefix.
const signs = "ABCDEFGHIJKLMNOPQRSTUVWXYZabcdefghijklmnopqrstuvwxyz0123456789-_"

// many is a text so many times.
func many(n int, s string) string { return strings.Repeat(s, n) }

// someKinds are the two, and what is none.
func someKinds() []int {
	return []int{least, least + 1, -lastID, -2, -1, 0, 1, 2, 3, 4, 255, 256, 257, 258, 1 << 32, 1<<32 + 1, 1<<32 + 2, lastID, lastID + 1, lastID + 2, most - 1, most}
}

// someIDs are IDs, and numbers that are none.
func someIDs() []int {
	return []int{least, least + 1, least + 7, -lastID, -256, -7, -2, -1, 0, 1, 2, 7, 127, 128, 255, 256, 65535, 65536, 1<<31 - 1, 1 << 31, 1<<32 - 1, 1 << 32, 1<<40 - 1, 1 << 40, 1<<53 + 1, lastID / 2, lastID - 1, lastID, lastID + 1, lastID + 7, most - 1, most}
}

// rightIDs are those of these that are IDs.
func rightIDs() []int {
	var l []int
	for _, id := range someIDs() {
		if idOK(id) {
			l = append(l, id)
		}
	}
	return l
}

// someSecrets have 24 bytes each, of all kinds.
func someSecrets() []string {
	l := []string{many(24, "s"), many(24, "\x00"), many(24, "\xff"), many(24, "_"), many(24, "A"), many(23, "\x00") + "\x01", "\x80" + many(23, "\x00"), many(12, "é"), refresh[:24], many(24, "\n")}
	r := rand.New(rand.NewSource(17))
	for range 20 {
		l = append(l, drawn(r, 24))
	}
	return l
}

// wrongSecrets have fewer bytes, or more; some have 24 runes.
func wrongSecrets() []string {
	var l []string
	for _, size := range []int{0, 1, 8, 22, 23, 25, 26, 32, 36, 48, 52, 256 + 24, 1<<16 + 24} {
		l = append(l, many(size, "s"), many(size, "\x00"), many(size, "\xff"))
	}
	return append(l, many(24, "é"), many(8, "日")+"s")
}

// drawn is a text of so many bytes.
func drawn(r *rand.Rand, size int) string {
	b := make([]byte, size)
	r.Read(b)
	return string(b)
}

// drawnID is one of few bits, or of many.
func drawnID(r *rand.Rand) int { return 1 + r.Intn(1<<(1+r.Intn(62))) }

// put is a text with another byte at a place.
func put(s string, at int, b byte) string { return s[:at] + string([]byte{b}) + s[at+1:] }

// swapped is a text whose bytes at a place and behind it have changed places.
func swapped(s string, at int) string {
	return s[:at] + s[at+1:at+2] + s[at:at+1] + s[at+2:]
}

// mint is a text that Mint must make.
func mint(t *testing.T, kind, id int, secret string) string {
	t.Helper()
	s, errno := token.Mint(kind, id, secret)
	if errno != api.OK {
		t.Fatalf("Mint(%d, %d, %q): %d", kind, id, secret, errno)
	}
	return s
}

// wantMint is that Mint answers what the document says of it.
func wantMint(t *testing.T, kind, id int, secret string) {
	t.Helper()
	want, wantErrno := minted(kind, id, secret)
	if s, errno := token.Mint(kind, id, secret); s != want || errno != wantErrno {
		t.Fatalf("Mint(%d, %d, %q): %q, %d; want %q, %d", kind, id, secret, s, errno, want, wantErrno)
	}
}

// wantParse is that Parse answers what the document says of it, and tells what that is.
func wantParse(t *testing.T, kind int, s string) api.Errno {
	t.Helper()
	id, secret, errno := parsed(kind, s)
	wantParsed(t, kind, s, id, secret, errno)
	return errno
}

// wantParsed is that Parse answers just that.
func wantParsed(t *testing.T, kind int, s string, wantID int, wantSecret string, want api.Errno) {
	t.Helper()
	if id, secret, errno := token.Parse(kind, s); id != wantID || secret != wantSecret || errno != want {
		t.Fatalf("Parse(%d, %q): %d, %q, %d; want %d, %q, %d", kind, s, id, secret, errno, wantID, wantSecret, want)
	}
}

// wantRefused is that Parse answers that error, and the document says so.
func wantRefused(t *testing.T, kind int, s string, want api.Errno) {
	t.Helper()
	if _, _, errno := parsed(kind, s); errno != want {
		t.Fatalf("the test is wrong: Parse(%d, %q) must be %d, not %d", kind, s, errno, want)
	}
	wantParsed(t, kind, s, 0, "", want)
}
