package hash_test

import (
	"crypto/hmac"
	"crypto/sha256"
	"encoding/hex"
	"hash/crc32"
	"math/rand"
	"slices"
	"strings"
	"sync"
	"testing"

	"latchkey/hash"
)

// edges are lengths about the ends of blocks and of their fillings.
var edges = []int{0, 1, 2, 31, 32, 54, 55, 56, 57, 62, 63, 64, 65, 118, 119, 120, 121, 127, 128, 129, 191, 192, 1000, 4096, 65537, 1 << 20}

// text is one of n bytes, of all kinds.
func text(n int, seed int64) string {
	b := make([]byte, n)
	rand.New(rand.NewSource(seed)).Read(b)
	return string(b)
}

func digestOf(s string) string {
	d := sha256.Sum256([]byte(s))
	return string(d[:])
}

func macOf(key, s string) string {
	m := hmac.New(sha256.New, []byte(key))
	m.Write([]byte(s))
	return string(m.Sum(nil))
}

// cut is a text as some parts, empty ones among them.
func cut(s string, r *rand.Rand) []string {
	var parts []string
	for len(s) > 0 {
		n := min(len(s), r.Intn(80))
		parts = append(parts, s[:n])
		s = s[n:]
	}
	return append(parts, "")
}

func wantHex(t *testing.T, what, got, want string) {
	t.Helper()
	if h := hex.EncodeToString([]byte(got)); h != want {
		t.Errorf("%s = %s, want %s", what, h, want)
	}
}

// H1.

func TestSumExamples(t *testing.T) {
	nothing := "e3b0c44298fc1c149afbf4c8996fb92427ae41e4649b934ca495991b7852b855"
	abc := "ba7816bf8f01cfea414140de5dae2223b00361a396177a9cb410ff61f20015ad"
	wantHex(t, "Sum of no parts", hash.Sum(), nothing)
	wantHex(t, "Sum of a nil list", hash.Sum([]string(nil)...), nothing)
	wantHex(t, "Sum of an empty part", hash.Sum(""), nothing)
	wantHex(t, "Sum of empty parts", hash.Sum("", "", ""), nothing)
	wantHex(t, "Sum of one part", hash.Sum("abc"), abc)
	wantHex(t, "Sum of several parts", hash.Sum("a", "", "bc"), abc)
	wantHex(t, "Sum with empty ends", hash.Sum("", "ab", "", "", "c", ""), abc)
	wantHex(t, "Sum of two blocks", hash.Sum("abcdbcdecdefdefgefghfghighijhijkijkljklmklmnlmnomnopnopq"),
		"248d6a61d20638b8e5c026930c3e6039a33ce45964ff2167f6ecedd419db06c1")
	wantHex(t, "Sum of a million", hash.Sum(strings.Repeat("a", 1000000)),
		"cdc76e5c9914fb9281a1c7e284d73e67f1809a48a497200e046d39ccc7112cd0")
}

func TestSumLengths(t *testing.T) {
	for n := range 300 {
		if s := text(n, 1); hash.Sum(s) != digestOf(s) {
			t.Errorf("Sum of %d bytes is wrong", n)
		}
	}
	for _, n := range edges {
		for _, s := range []string{text(n, 2), strings.Repeat("\x00", n), strings.Repeat("\xff", n)} {
			if hash.Sum(s) != digestOf(s) {
				t.Errorf("Sum of %d bytes is wrong", n)
			}
		}
	}
}

// H2.

func TestMACExamples(t *testing.T) {
	wantHex(t, "MAC of nothing", hash.MAC("", ""), "b613679a0814d9ec772f95d778c35fc5ff1697c493715653c6c712144292c5ad")
	wantHex(t, "MAC of no parts", hash.MAC(""), "b613679a0814d9ec772f95d778c35fc5ff1697c493715653c6c712144292c5ad")
	wantHex(t, "MAC of parts", hash.MAC("key", "lat", "ch"), "155cbe0ea56ea4c6a67c44353f651f7d13b58ada59c5dc041e7339195f865b16")
	wantHex(t, "MAC under a long key", hash.MAC(strings.Repeat("k", 65), "latch"), "68deb8af1e15a8110197349cf487f48b626215174defe4c59e08ea41631bd0af")
}

func TestMACKeys(t *testing.T) {
	for _, k := range []int{0, 1, 2, 31, 32, 33, 62, 63, 64, 65, 66, 127, 128, 129, 1000} {
		key := text(k, 3)
		if hash.MAC(key) != macOf(key, "") {
			t.Errorf("MAC of no parts under %d bytes is wrong", k)
		}
		for _, n := range []int{0, 1, 55, 56, 63, 64, 65, 300} {
			s := text(n, 4)
			want := macOf(key, s)
			if hash.MAC(key, s) != want {
				t.Errorf("MAC of %d bytes under %d is wrong", n, k)
			}
			if hash.MAC(key, "", s[:n/3], s[n/3:n/2], "", s[n/2:]) != want {
				t.Errorf("MAC of %d bytes in parts under %d is wrong", n, k)
			}
		}
	}
}

// H3.

func TestCRC(t *testing.T) {
	for s, want := range map[string]uint32{"": 0, "123456789": 0xcbf43926, "a": 0xe8b7be43} {
		if got := hash.CRC(s); got != want {
			t.Errorf("CRC(%q) = %08x, want %08x", s, got, want)
		}
	}
	var all []byte
	for b := range 256 {
		all = append(all, byte(b))
		one := []byte{byte(b)}
		if hash.CRC(string(one)) != crc32.ChecksumIEEE(one) {
			t.Errorf("CRC of the byte %d is wrong", b)
		}
		if hash.CRC(string(all)) != crc32.ChecksumIEEE(all) {
			t.Errorf("CRC of the bytes up to %d is wrong", b)
		}
	}
	for _, n := range edges {
		if s := text(n, 5); hash.CRC(s) != crc32.ChecksumIEEE([]byte(s)) {
			t.Errorf("CRC of %d bytes is wrong", n)
		}
	}
}

func TestSame(t *testing.T) {
	for _, s := range []string{"", "\x00", "a", text(32, 6), text(1000, 6)} {
		if !hash.Same(s, strings.Clone(s)) {
			t.Errorf("%q is not the same as itself", s)
		}
	}
	for _, c := range [][2]string{
		{"", "a"}, {"", "\x00"}, {"a", "a\x00"}, {"ab", "a"}, {"ab", "b"}, {"a", "A"}, {"ab", "ba"}, {"aa", "bb"},
		{"\x00", "\x80"}, {"\x00", "\x01"}, {text(32, 6), text(32, 7)}, {text(32, 6), text(31, 6)},
	} {
		if hash.Same(c[0], c[1]) || hash.Same(c[1], c[0]) {
			t.Errorf("%q and %q are the same", c[0], c[1])
		}
	}
	s := text(32, 6)
	for i := range s {
		for bit := range 8 {
			b := []byte(s)
			b[i] ^= 1 << bit
			if hash.Same(s, string(b)) || hash.Same(string(b), s) {
				t.Errorf("the same, but for bit %d of byte %d", bit, i)
			}
		}
	}
}

// H4.

// holds asks a hasher twice, for asking must change nothing.
func holds(t *testing.T, h *hash.Hasher, s string) {
	t.Helper()
	for range 2 {
		if h.Len() != len(s) {
			t.Errorf("Len = %d, want %d", h.Len(), len(s))
		}
		if h.Sum() != digestOf(s) {
			t.Errorf("Sum behind %d bytes is wrong", len(s))
		}
	}
}

func TestHasherExample(t *testing.T) {
	h := hash.New()
	h.Write("a")
	c := h.Copy()
	c.Write("bc")
	wantHex(t, "the copy's Sum", c.Sum(), "ba7816bf8f01cfea414140de5dae2223b00361a396177a9cb410ff61f20015ad")
	if c.Len() != 3 || h.Len() != 1 {
		t.Errorf("Len of the copy %d, of the first one %d", c.Len(), h.Len())
	}
	holds(t, h, "a")
}

func TestHasherPieces(t *testing.T) {
	holds(t, hash.New(), "")
	r := rand.New(rand.NewSource(8))
	for range 50 {
		h, taken := hash.New(), ""
		for _, p := range cut(text(r.Intn(600), r.Int63()), r) {
			h.Write(p)
			taken += p
			holds(t, h, taken)
		}
	}
	for size := 1; size <= 130; size++ {
		h, s := hash.New(), text(400, 9)
		for part := range slices.Chunk([]byte(s), size) {
			h.Write(string(part))
		}
		holds(t, h, s)
	}
}

func TestHasherCopy(t *testing.T) {
	for n := range 200 {
		first, begun := hash.New(), text(n, 10)
		first.Write(begun)
		second := first.Copy()
		third := second.Copy()
		holds(t, second, begun)
		first.Write("one")
		holds(t, second, begun)
		second.Write(strings.Repeat("two", 50))
		third.Write("\x00")
		first.Write(strings.Repeat("more", 50))
		holds(t, first, begun+"one"+strings.Repeat("more", 50))
		holds(t, second, begun+strings.Repeat("two", 50))
		holds(t, third, begun+"\x00")
	}
}

// H5.

func TestCutsDoNotMatter(t *testing.T) {
	s := text(150, 11)
	sum, mac := hash.Sum(s), hash.MAC("key", s)
	for i := range len(s) + 1 {
		for j := i; j <= len(s); j++ {
			if hash.Sum(s[:i], s[i:j], s[j:]) != sum {
				t.Fatalf("Sum cut at %d and %d is another one", i, j)
			}
			if hash.MAC("key", s[:i], s[i:j], s[j:]) != mac {
				t.Fatalf("MAC cut at %d and %d is another one", i, j)
			}
		}
	}
	r := rand.New(rand.NewSource(12))
	for range 50 {
		s := text(r.Intn(1000), r.Int63())
		if hash.Sum(cut(s, r)...) != hash.Sum(s) || hash.MAC(s, cut(s, r)...) != hash.MAC(s, s) {
			t.Fatalf("the cuts of %d bytes matter", len(s))
		}
	}
}

func TestKeysWithNoughts(t *testing.T) {
	for n := range 64 {
		key := text(n, 13)
		longer := key
		for len(longer) < 64 {
			longer += "\x00"
			if hash.MAC(longer, "latch") != hash.MAC(key, "latch") {
				t.Errorf("a key of %d bytes and noughts up to %d make unlike MACs", n, len(longer))
			}
		}
		if hash.MAC(longer+"\x00", "latch") == hash.MAC(key, "latch") {
			t.Errorf("a key of %d bytes and noughts up to 65 make the same MAC", n)
		}
	}
}

func TestLongKeys(t *testing.T) {
	for _, n := range []int{65, 66, 100, 128, 1000} {
		key := text(n, 14)
		if hash.MAC(key, "la", "tch") != hash.MAC(hash.Sum(key), "latch") {
			t.Errorf("a key of %d bytes and its digest make unlike MACs", n)
		}
	}
	key := text(64, 14)
	if hash.MAC(key, "latch") == hash.MAC(hash.Sum(key), "latch") {
		t.Error("a key of 64 bytes stands for itself, not for its digest")
	}
}

func TestCRCOfXor(t *testing.T) {
	for _, n := range []int{0, 1, 2, 3, 4, 5, 16, 64, 511, 512, 4096} {
		a, b, c := text(n, 15), text(n, 16), text(n, 17)
		d := make([]byte, n)
		for i := range d {
			d[i] = a[i] ^ b[i] ^ c[i]
		}
		if hash.CRC(string(d)) != hash.CRC(a)^hash.CRC(b)^hash.CRC(c) {
			t.Errorf("CRC of the xor of three texts of %d bytes is wrong", n)
		}
	}
}

func TestCRCOfNeighbours(t *testing.T) {
	r := rand.New(rand.NewSource(18))
	for _, n := range []int{1, 2, 3, 4, 5, 20, 512} {
		s := text(n, 19)
		for range 2000 {
			wide := 1 + r.Intn(min(4, n))
			at := r.Intn(n - wide + 1)
			b := []byte(s)
			r.Read(b[at : at+wide])
			if string(b) != s && hash.CRC(string(b)) == hash.CRC(s) {
				t.Fatalf("%d bytes, %d of them others from %d on: the same CRC", n, wide, at)
			}
		}
	}
}

// R1 and R2.

func TestPartsStay(t *testing.T) {
	all := []string{"a", "", "bc", "spare", "room"}
	kept := slices.Clone(all)
	if hash.Sum(all[:3]...) != digestOf("abc") || hash.MAC("key", all[:3]...) != macOf("key", "abc") {
		t.Error("a list with spare room gives others")
	}
	if !slices.Equal(all, kept) {
		t.Errorf("the list became %q", all)
	}
	b := []byte("abc")
	h := hash.New()
	h.Write(string(b))
	b[0] = 'x'
	all[0] = "x"
	holds(t, h, "abc")
}

func TestHashersDoNotDisturb(t *testing.T) {
	var group sync.WaitGroup
	for n := range 8 {
		group.Go(func() {
			s := text(1000+n, int64(n))
			h := hash.New()
			for i := range len(s) {
				h.Write(s[i : i+1])
			}
			holds(t, h, s)
			if hash.Sum(s) != digestOf(s) || hash.MAC(s, s) != macOf(s, s) {
				t.Errorf("worker %d got others", n)
			}
		})
	}
	group.Wait()
}

func BenchmarkSum(b *testing.B) {
	s := text(1<<16, 20)
	b.SetBytes(1 << 16)
	for b.Loop() {
		hash.Sum(s)
	}
}

func BenchmarkCRC(b *testing.B) {
	s := text(512, 20)
	b.SetBytes(512)
	for b.Loop() {
		hash.CRC(s)
	}
}
