package token_test

import (
	"math/rand"
	"runtime"
	"strings"
	"sync"
	"testing"
	"unsafe"

	"latchkey/api"
	"latchkey/token"
)

// memory is a piece of it: first and last byte.
type memory [2]uintptr

// memoryOf is where texts stand that have bytes.
func memoryOf(texts ...string) []memory {
	var all []memory
	for _, s := range texts {
		p := uintptr(unsafe.Pointer(unsafe.StringData(s)))
		all = append(all, memory{p, p + uintptr(len(s)) - 1})
	}
	return all
}

// overlap says whether some of these pieces lie over one another.
func overlap(all []memory) bool {
	for n, a := range all {
		for _, b := range all[n+1:] {
			if a[0] <= b[1] && b[0] <= a[1] {
				return true
			}
		}
	}
	return false
}

// R2 and the language's rule 7: what comes out is new memory.
func TestNewMemory(t *testing.T) {
	r := rand.New(rand.NewSource(12))
	for n := range 500 {
		kind, id, secret := 1+n%2, drawnID(r), drawn(r, 24)
		texts := []string{secret}
		for range 2 {
			s := mint(t, kind, id, secret)
			_, told, _ := token.Parse(kind, s)
			_, again, _ := token.Parse(kind, s)
			texts = append(texts, s, told, again, token.Hash(s), token.Hash(s))
		}
		if overlap(memoryOf(texts...)) {
			t.Fatalf("answers to %d, %d, %q share memory", kind, id, secret)
		}
		runtime.KeepAlive(texts)
	}
}

// R2: a text that stands in other bytes, which are written over then.
func TestNothingIsKept(t *testing.T) {
	b := []byte(refresh)
	id, secret, errno := token.Parse(1, unsafe.String(&b[0], len(b)))
	digest := token.Hash(unsafe.String(&b[0], len(b)))
	copy(b, many(52, "x"))
	if id != 7 || secret != many(24, "s") || errno != api.OK || digest != token.Hash(refresh) {
		t.Errorf("%d, %q, %d, %x", id, secret, errno, digest)
	}
	c := []byte(many(24, "s"))
	s := mint(t, 1, 7, unsafe.String(&c[0], len(c)))
	copy(c, many(24, "x"))
	if s != refresh {
		t.Errorf("%q", s)
	}
}

// R2: an answer hangs on the arguments alone, whatever was asked ahead of it.
func TestNothingIsRemembered(t *testing.T) {
	r := rand.New(rand.NewSource(13))
	for range 2000 {
		switch r.Intn(4) {
		case 0:
			wantMint(t, r.Intn(4), drawnID(r)-1, drawn(r, 24))
		case 1:
			wantParse(t, r.Intn(4), drawn(r, r.Intn(60)))
		case 2:
			wantParse(t, r.Intn(4), put(refresh, r.Intn(52), byte(r.Intn(256))))
		case 3:
			wantHash(t, drawn(r, r.Intn(60)))
		}
		wantMint(t, 1, 7, many(24, "s"))
		wantParsed(t, 1, refresh, 7, many(24, "s"), api.OK)
		wantParsed(t, 2, refresh, 0, "", api.ErrTokenKind)
		wantParsed(t, 2, grant, 7, many(24, "s"), api.OK)
	}
}

// R2: calls at the same time do not disturb one another.
func TestAtTheSameTime(t *testing.T) {
	var group sync.WaitGroup
	for n := range 8 {
		group.Go(func() {
			secret := many(24, string(rune('a'+n)))
			for id := 1; id < 300; id++ {
				kind := 1 + (n+id)%2
				s, errno := token.Mint(kind, id, secret)
				if s != textOf(kind, uint64(id), secret) || errno != api.OK {
					t.Errorf("Mint(%d, %d, %q): %q, %d", kind, id, secret, s, errno)
				}
				if number, told, errno := token.Parse(kind, s); number != id || told != secret || errno != api.OK {
					t.Errorf("Parse(%d, %q): %d, %q, %d", kind, s, number, told, errno)
				}
				if _, _, errno := token.Parse(3-kind, s); errno != api.ErrTokenKind {
					t.Errorf("Parse(%d, %q): %d", 3-kind, s, errno)
				}
			}
		})
	}
	group.Wait()
}

// R1: texts of any size, each call ends.
func TestLongTexts(t *testing.T) {
	for _, size := range []int{1 << 20, 1 << 24} {
		s := strings.Repeat("lkr_", size/4)
		wantParsed(t, 1, s, 0, "", api.ErrTokenForm)
		wantParsed(t, 2, s, 0, "", api.ErrTokenKind)
		if text, errno := token.Mint(1, 7, s); text != "" || errno != api.ErrArg {
			t.Errorf("Mint of a secret of %d bytes: %q, %d", size, text, errno)
		}
		if len(token.Hash(s)) != api.HashSize {
			t.Errorf("Hash of %d bytes", size)
		}
	}
}
