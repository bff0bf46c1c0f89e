package token_test

import (
	"encoding/base64"
	"math/rand"
	"strings"
	"testing"

	"latchkey/api"
	"latchkey/token"
)

func isSign(b byte) bool { return strings.IndexByte(signs, b) >= 0 }

// K2: what is no kind is told ahead of all else.
func TestParseKinds(t *testing.T) {
	texts := []string{"", "l", "lkr", "lkr_", "lkc_", "lkx_", refresh, grant, refresh[:51], refresh + "A", refresh[:51] + "w", "lkr_" + grant[4:], many(52, "\x00"), many(1<<16, "x")}
	for _, kind := range someKinds() {
		for _, s := range texts {
			wantParse(t, kind, s)
			if !kindOK(kind) {
				wantParsed(t, kind, s, 0, "", api.ErrArg)
			}
		}
	}
}

// K2: what begins with the other kind's prefix, whatever stands behind it.
func TestParseOtherKind(t *testing.T) {
	for kind := 1; kind <= 2; kind++ {
		own, other := prefix(kind), prefix(3-kind)
		for _, behind := range []string{"", "A", "=", own, other, refresh, refresh[4:], grant[4:], refresh[4:51], refresh[4:] + "A", many(48, "A"), many(48, "_"), many(48, "="), many(48, "\xff"), many(1<<16, "x")} {
			wantRefused(t, kind, other+behind, api.ErrTokenKind)
		}
		for size := range 100 {
			wantRefused(t, kind, other+many(size, "A"), api.ErrTokenKind)
		}
		for _, s := range []string{other[:3], " " + other, "x" + other + many(47, "A"), strings.ToUpper(other) + refresh[4:], own + other + many(44, "A")} {
			if wantParse(t, kind, s) == api.ErrTokenKind {
				t.Fatalf("the test is wrong: %q", s)
			}
		}
	}
}

// K2: a text of 52 bytes, no more and no fewer.
func TestParseSizes(t *testing.T) {
	for kind, whole := range map[int]string{1: refresh, 2: grant} {
		for size := range 52 {
			wantRefused(t, kind, whole[:size], api.ErrTokenForm)
		}
		wantParsed(t, kind, whole, 7, many(24, "s"), api.OK)
		for size := 1; size < 200; size++ {
			for _, b := range []string{"A", "=", "\x00", "\n", " "} {
				wantRefused(t, kind, whole+many(size, b), api.ErrTokenForm)
			}
		}
		wantRefused(t, kind, whole+whole, api.ErrTokenForm)
		wantRefused(t, kind, whole+many(1<<16, "A"), api.ErrTokenForm)
		for _, at := range []int{4, 5, 20, 51} { // one too few, one too many, inside
			wantRefused(t, kind, whole[:at]+whole[at+1:], api.ErrTokenForm)
			wantRefused(t, kind, whole[:at]+"A"+whole[at:], api.ErrTokenForm)
			wantRefused(t, kind, whole[:at]+"\n"+whole[at:], api.ErrTokenForm)
		}
	}
}

// K2: secrets of other sizes, with their right check: what is read has too many bytes, or too few.
func TestParseBytesOfOtherSizes(t *testing.T) {
	for kind := 1; kind <= 2; kind++ {
		for size := range 60 {
			if size != 24 {
				wantRefused(t, kind, textOf(kind, 7, many(size, "s")), api.ErrTokenForm)
			}
		}
	}
}

// K2: a prefix that is none.
func TestParsePrefix(t *testing.T) {
	for kind, whole := range map[int]string{1: refresh, 2: grant} {
		for _, s := range []string{"lkx_", "LKR_", "LKC_", "lkr-", "lkc-", "lkr.", "Lkr_", "lk__", "    ", "\x00\x00\x00\x00", "_rkl", "AAAA", "_lkr", "_lkc", "lrk_", "lck_", "rlk_", "lk_r", "lk_c"} {
			wantRefused(t, kind, s+whole[4:], api.ErrTokenForm)
		}
		for at := range 4 {
			for b := range 256 {
				if s := put(whole, at, byte(b)); s != whole && s[:4] != prefix(3-kind) {
					wantRefused(t, kind, s, api.ErrTokenForm)
				}
			}
		}
		wantRefused(t, kind, "A"+whole[:51], api.ErrTokenForm)
		wantRefused(t, kind, whole[4:]+whole[:4], api.ErrTokenForm)
	}
}

// K2: bytes that are no signs, at each place.
func TestParseSigns(t *testing.T) {
	for kind, whole := range map[int]string{1: refresh, 2: grant} {
		for at := 4; at < 52; at++ {
			for b := range 256 {
				if !isSign(byte(b)) {
					wantRefused(t, kind, put(whole, at, byte(b)), api.ErrTokenForm)
				}
			}
		}
		for _, b := range []string{"=", "+", "/", "\n", "\x00", "\xff"} {
			wantRefused(t, kind, whole[:4]+many(48, b), api.ErrTokenForm)
			wantRefused(t, kind, whole[:50]+many(2, b), api.ErrTokenForm)
		}
	}
}

// K2: the other alphabet of Base64 is not read, where it says another thing.
func TestParseStandard(t *testing.T) {
	r := rand.New(rand.NewSource(4))
	others := 0
	for n := range 500 {
		kind := 1 + n%2
		bytes := bytesOf(kind, uint64(drawnID(r)), drawn(r, 24))
		s := prefix(kind) + base64.RawStdEncoding.EncodeToString([]byte(bytes))
		if wantParse(t, kind, s) == api.ErrTokenForm {
			others++
		}
	}
	if others < 100 {
		t.Fatalf("the test is wrong: %d", others)
	}
}

// K2: the first 8 bytes are no ID, with their right check.
func TestParseID(t *testing.T) {
	for kind := 1; kind <= 2; kind++ {
		for _, secret := range someSecrets() {
			for _, id := range []uint64{0, lastID + 1, lastID + 2, lastID + 7, 1<<63 - 1, 1 << 63, 1<<63 + 1, 1<<63 + 7, 1<<63 + lastID, 1<<64 - lastID, 1<<64 - 7, 1<<64 - 1} {
				wantRefused(t, kind, textOf(kind, id, secret), api.ErrTokenForm)
			}
			for _, id := range rightIDs() {
				wantParsed(t, kind, textOf(kind, uint64(id), secret), id, secret, api.OK)
			}
		}
	}
}

// K2: what is no ID is told ahead of a check that is another one.
func TestParseIDAheadOfCheck(t *testing.T) {
	for kind := 1; kind <= 2; kind++ {
		for _, id := range []uint64{0, lastID + 1, 1 << 63, 1<<64 - 1} {
			s := textOf(kind, id, many(24, "s"))
			for _, last := range signs {
				wantRefused(t, kind, s[:51]+string(last), api.ErrTokenForm)
			}
			wantRefused(t, kind, prefix(kind)+textOf(3-kind, id, many(24, "s"))[4:], api.ErrTokenForm)
		}
	}
}

// K2: a check that is another one: each bit of it, and that of the other kind.
func TestParseCheck(t *testing.T) {
	r := rand.New(rand.NewSource(5))
	for n := range 200 {
		kind := 1 + n%2
		id, secret := drawnID(r), drawn(r, 24)
		bytes := bytesOf(kind, uint64(id), secret)
		for bit := range 32 {
			b := []byte(bytes)
			b[32+bit/8] ^= 1 << (bit % 8)
			wantRefused(t, kind, prefix(kind)+base64.RawURLEncoding.EncodeToString(b), api.ErrTokenCheck)
		}
		wantRefused(t, kind, prefix(kind)+textOf(3-kind, uint64(id), secret)[4:], api.ErrTokenCheck)
		for _, other := range []string{"\x00\x00\x00\x00", "\xff\xff\xff\xff", drawn(r, 4)} {
			wantRefused(t, kind, prefix(kind)+base64.RawURLEncoding.EncodeToString([]byte(bytes[:32]+other)), api.ErrTokenCheck)
		}
		turned := []byte(bytes[:32] + bytes[35:36] + bytes[34:35] + bytes[33:34] + bytes[32:33])
		wantRefused(t, kind, prefix(kind)+base64.RawURLEncoding.EncodeToString(turned), api.ErrTokenCheck)
	}
}

// K2: a right check of another ID, or of another secret.
func TestParseCheckOfAnother(t *testing.T) {
	one, two := bytesOf(1, 7, many(24, "s")), bytesOf(1, 8, many(24, "t"))
	for _, bytes := range []string{one[:32] + two[32:], one[:8] + two[8:], two[:8] + one[8:], two[:32] + one[32:]} {
		wantRefused(t, 1, "lkr_"+base64.RawURLEncoding.EncodeToString([]byte(bytes)), api.ErrTokenCheck)
	}
}

// wrongs are what may be wrong with a call, several at once.
type wrongs struct {
	kind, other, size, prefix, sign, id, check bool
}

// text is one with which these are wrong, if it was to be one of a kind.
func (w wrongs) text(kind int) string {
	id := uint64(7)
	if w.id {
		id = lastID + 1
	}
	b := []byte(bytesOf(kind, id, many(24, "s")))
	if w.check {
		b[35] ^= 1
	}
	s := prefix(kind) + base64.RawURLEncoding.EncodeToString(b)
	if w.sign {
		s = put(s, 30, '=')
	}
	if w.prefix {
		s = "lkx_" + s[4:]
	}
	if w.other { // a text begins with one prefix alone: the other kind's stands in place of none
		s = prefix(3-kind) + s[4:]
	}
	if w.size {
		s = s[:51]
	}
	return s
}

// want is the error that the promise names first.
func (w wrongs) want() api.Errno {
	switch {
	case w.kind:
		return api.ErrArg
	case w.other:
		return api.ErrTokenKind
	case w.size || w.prefix || w.sign || w.id:
		return api.ErrTokenForm
	case w.check:
		return api.ErrTokenCheck
	}
	return api.OK
}

// K2: each thing wrong alone, and all that may go together.
func TestParseOrderOfErrors(t *testing.T) {
	seen := map[api.Errno]int{}
	for bits := range 1 << 7 {
		on := func(n int) bool { return bits>>n&1 == 1 }
		w := wrongs{on(0), on(1), on(2), on(3), on(4), on(5), on(6)}
		for kind := 1; kind <= 2; kind++ {
			as := []int{kind}
			if w.kind {
				as = []int{-1, 0, 3, least, most}
			}
			for _, k := range as {
				id, secret, errno := token.Parse(k, w.text(kind))
				if errno != w.want() || errno != api.OK && (id != 0 || secret != "") {
					t.Errorf("Parse(%d, %q): %d, %q, %d; want %d", k, w.text(kind), id, secret, errno, w.want())
				}
				seen[errno]++
			}
		}
	}
	if len(seen) != 5 {
		t.Fatalf("the test is wrong: %v", seen)
	}
}

// K2: texts that are drawn: of all bytes, of signs alone, behind each prefix, about 52 bytes.
func TestParseDrawn(t *testing.T) {
	r := rand.New(rand.NewSource(6))
	seen := map[api.Errno]int{}
	for range 20000 {
		size := 46 + r.Intn(5)
		behind := drawn(r, size)
		if r.Intn(4) > 0 {
			behind = drawnSigns(r, size)
		}
		if r.Intn(2) == 0 { // an ID far below 2^62
			behind = "AAAA" + behind[4:]
		}
		for _, front := range []string{"lkr_", "lkc_", "lkx_", ""} {
			for kind := 0; kind <= 3; kind++ {
				seen[wantParse(t, kind, front+behind)]++
			}
		}
	}
	if seen[api.ErrTokenCheck] == 0 || seen[api.ErrTokenForm] == 0 || seen[api.ErrTokenKind] == 0 {
		t.Fatalf("the test is wrong: %v", seen)
	}
}

// drawnSigns is a text of so many signs.
func drawnSigns(r *rand.Rand, size int) string {
	b := make([]byte, size)
	for at := range b {
		b[at] = signs[r.Intn(len(signs))]
	}
	return string(b)
}

// K2: whatever is fed.
func FuzzParse(f *testing.F) {
	for _, s := range []string{"", "lkr_", "lkc_", refresh, grant, refresh[:51], refresh + "A", "lkr_" + grant[4:], many(52, "A")} {
		for kind := 0; kind <= 3; kind++ {
			f.Add(kind, s)
		}
	}
	f.Fuzz(func(t *testing.T, kind int, s string) {
		if wantParse(t, kind, s) == api.OK {
			wantBack(t, kind, s)
		}
	})
}
