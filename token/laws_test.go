package token_test

import (
	"encoding/base64"
	"math/rand"
	"testing"

	"latchkey/api"
	"latchkey/token"
)

// wantBack is that a text that Parse takes is what Mint makes of what it tells.
func wantBack(t *testing.T, kind int, s string) {
	t.Helper()
	id, secret, errno := token.Parse(kind, s)
	if errno != api.OK {
		t.Fatalf("Parse(%d, %q): %d", kind, s, errno)
	}
	if again := mint(t, kind, id, secret); again != s {
		t.Fatalf("Mint(%d, %d, %q): %q, and %q was taken", kind, id, secret, again, s)
	}
}

// wantNeither is that neither kind takes a text.
func wantNeither(t *testing.T, s string) {
	t.Helper()
	for kind := 1; kind <= 2; kind++ {
		if id, secret, errno := token.Parse(kind, s); id != 0 || secret != "" || errno == api.OK {
			t.Fatalf("Parse(%d, %q): %d, %q, %d", kind, s, id, secret, errno)
		}
	}
}

// K4: Parse of what Mint made, by both kinds.
func TestMintedIsParsed(t *testing.T) {
	check := func(kind, id int, secret string) {
		t.Helper()
		s := mint(t, kind, id, secret)
		wantParsed(t, kind, s, id, secret, api.OK)
		wantParsed(t, 3-kind, s, 0, "", api.ErrTokenKind)
	}
	for kind := 1; kind <= 2; kind++ {
		for _, id := range rightIDs() {
			for _, secret := range someSecrets() {
				check(kind, id, secret)
			}
		}
	}
	r := rand.New(rand.NewSource(8))
	for n := range 5000 {
		check(1+n%2, drawnID(r), drawn(r, 24))
	}
}

// K4: what Parse takes is what Mint makes of what it tells, also of texts that Mint did not make.
func TestParsedIsMinted(t *testing.T) {
	r := rand.New(rand.NewSource(9))
	for range 3000 {
		kind := 1 + r.Intn(2)
		s := textOf(kind, uint64(drawnID(r)), drawn(r, 24))
		wantBack(t, kind, s)
	}
}

// K4: and of near ones: of all checks whose last two bytes are any, one alone is taken.
func TestOneCheckAlone(t *testing.T) {
	b := []byte(bytesOf(2, 1<<40+5, drawn(rand.New(rand.NewSource(10)), 24)))
	taken := 0
	for n := range 1 << 16 {
		b[34], b[35] = byte(n>>8), byte(n)
		s := "lkc_" + base64.RawURLEncoding.EncodeToString(b)
		if wantParse(t, 2, s) == api.OK {
			wantBack(t, 2, s)
			taken++
		}
	}
	if taken != 1 {
		t.Fatalf("%d are taken", taken)
	}
}

// someMinted are texts of both kinds, of edges and drawn.
func someMinted(t *testing.T, drawnOnes int) []string {
	t.Helper()
	l := []string{refresh, grant}
	for _, id := range []int{1, 2, 255, 1 << 40, lastID - 1, lastID} {
		for _, secret := range []string{many(24, "\x00"), many(24, "\xff"), many(24, "s")} {
			l = append(l, mint(t, 1, id, secret), mint(t, 2, id, secret))
		}
	}
	r := rand.New(rand.NewSource(11))
	for n := range drawnOnes {
		l = append(l, mint(t, 1+n%2, drawnID(r), drawn(r, 24)))
	}
	return l
}

// K4: each byte another one.
func TestOneByteAnother(t *testing.T) {
	for _, s := range someMinted(t, 40) {
		for at := range s {
			for b := range 256 {
				if byte(b) != s[at] {
					wantNeither(t, put(s, at, byte(b)))
				}
			}
		}
	}
}

// K4: each two neighbours changed about.
func TestNeighboursChangedAbout(t *testing.T) {
	changed := 0
	for _, s := range someMinted(t, 3000) {
		for at := range len(s) - 1 {
			if s[at] != s[at+1] {
				wantNeither(t, swapped(s, at))
				changed++
			}
		}
	}
	if changed < 100000 {
		t.Fatalf("the test is wrong: %d", changed)
	}
}

// K4: whether a check still fits hangs on which bits became others, not on the text. Of two signs that change places the same bits become others in both: so all that may become of two neighbours is tried here.
func TestNeighboursOtherByTheSameBits(t *testing.T) {
	for _, s := range []string{mint(t, 1, 1<<40, many(24, "s")), mint(t, 2, lastID-1, many(24, "\x5a"))} {
		worth := func(at int) int {
			for n := range len(signs) {
				if signs[n] == s[at] {
					return n
				}
			}
			return 0
		}
		for at := 4; at < 51; at++ {
			for bits := 1; bits < 64; bits++ {
				one := put(s, at, signs[worth(at)^bits])
				wantNeither(t, put(one, at+1, signs[worth(at+1)^bits]))
			}
		}
	}
}

// A text that was never minted is refused: one whose kind alone was changed, whose parts are of two texts.
func TestPartsOfTwo(t *testing.T) {
	l := someMinted(t, 30)
	for n, a := range l {
		wantNeither(t, map[string]string{"lkr_": "lkc_", "lkc_": "lkr_"}[a[:4]]+a[4:])
		b := l[(n+1)%len(l)]
		for at := 5; at < 51; at++ {
			if s := a[:at] + b[at:]; s != a && s != b && s != a[:4]+b[4:] {
				for kind := 1; kind <= 2; kind++ {
					wantParse(t, kind, s)
				}
			}
		}
	}
}
