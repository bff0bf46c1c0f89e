package pager_test

import (
	"encoding/binary"
	"math/rand"
	"strings"
	"testing"

	"latchkey/api"
	"latchkey/pager"
)

// top is a head.
type top struct {
	generation, root, blocks int
	note                     string
}

// mayBe is the chapter's word, a field at a time.
func (h top) mayBe() bool {
	switch {
	case h.generation <= 0 || h.generation > worn:
		return false
	case h.blocks <= 7 || h.blocks > 4096:
		return false
	case h.root != 0 && (h.root <= 1 || h.root > h.blocks-1):
		return false
	}
	return len(h.note) == 16
}

// block is how the head stands on a disk.
func (h top) block() string { return headOf(h.generation, h.root, h.blocks, h.note) }

// topOf is the head of a block, by the chapter's words.
func topOf(s string) (top, bool) {
	if len(s) != 512 {
		return top{}, false
	}
	b := []byte(s)
	h := top{int(binary.BigEndian.Uint64(b[4:])), int(binary.BigEndian.Uint32(b[12:])), int(binary.BigEndian.Uint32(b[16:])), s[20:36]}
	if !h.mayBe() || h.block()[:64] != s[:64] {
		return top{}, false
	}
	return h, true
}

func wantHead(t *testing.T, h top) {
	t.Helper()
	s, errno := pager.PrintHead(h.generation, h.root, h.blocks, h.note)
	if errno != api.OK || s != h.block() {
		t.Errorf("PrintHead(%v): %q, %d", h, s, errno)
	}
	wantParsed(t, h.block(), h)
}

func wantParsed(t *testing.T, s string, want top) {
	t.Helper()
	generation, root, blocks, note, errno := pager.ParseHead(s)
	if got := (top{generation, root, blocks, note}); errno != api.OK || got != want {
		t.Errorf("ParseHead of %v: %v, %d", want, got, errno)
	}
}

func wantNoPrint(t *testing.T, h top) {
	t.Helper()
	if s, errno := pager.PrintHead(h.generation, h.root, h.blocks, h.note); errno != api.ErrArg || s != "" {
		t.Errorf("PrintHead(%v): %q, %d", h, s, errno)
	}
}

func wantNoHead(t *testing.T, s string) {
	t.Helper()
	generation, root, blocks, note, errno := pager.ParseHead(s)
	if errno != api.ErrPagerForm || generation != 0 || root != 0 || blocks != 0 || note != "" {
		t.Errorf("ParseHead of %q: %d, %d, %d, %q, %d", s, generation, root, blocks, note, errno)
	}
}

// G2: heads at the edges of each number, there and back.
func TestHeads(t *testing.T) {
	for _, generation := range []int{1, 2, 3, 1 << 53, worn - 1, worn} {
		for _, blocks := range []int{8, 9, 256, 4095, 4096} {
			for _, root := range []int{0, 2, 3, 7, blocks - 2, blocks - 1} {
				for _, note := range []string{n16, noughts[:16], strings.Repeat("\xff", 16), "0123456789abcdef"} {
					wantHead(t, top{generation, root, blocks, note})
				}
			}
		}
	}
}

// G2: what is no head.
func TestHeadsRefused(t *testing.T) {
	for _, n := range []int{0, worn + 1, -1, most, least, least + 1} {
		wantNoPrint(t, top{n, 0, 8, n16})
		wantNoPrint(t, top{n, 2, 8, n16})
	}
	for _, n := range []int{7, 4097, 0, -1, -8, 1<<32 + 8, most, least, least + 8} {
		wantNoPrint(t, top{1, 0, n, n16})
		wantNoPrint(t, top{1, 2, n, n16})
		wantNoPrint(t, top{1, n - 1, n, n16})
	}
	for _, n := range []int{1, 8, 9, -1, -2, 4095, 1 << 32, 1<<32 + 2, most, least, least + 2} {
		wantNoPrint(t, top{1, n, 8, n16})
	}
	wantNoPrint(t, top{1, 4096, 4096, n16})
	for _, n := range []int{0, 1, 15, 17, 32, 65552} {
		wantNoPrint(t, top{1, 0, 8, strings.Repeat("n", n)})
		wantNoPrint(t, top{0, 1, 7, strings.Repeat("n", n)})
	}
}

// G2: a text that has not 512 bytes is refused, though its first 64 are those of a head.
func TestHeadSize(t *testing.T) {
	s := headOf(3, 2, 8, n16)
	for _, n := range []int{0, 1, 4, 36, 40, 63, 64, 65, 128, 511} {
		wantNoHead(t, s[:n])
	}
	for _, more := range []string{"\x00", "x", s, noughts} {
		wantNoHead(t, s+more)
	}
	wantNoHead(t, noughts)
	wantNoHead(t, noughts[:448]+s[:64])
}

// G2: each bit of the first 64 bytes counts, none of those behind them.
func TestHeadBytes(t *testing.T) {
	for _, h := range []top{{1, 0, 8, noughts[:16]}, {3, 2, 8, n16}, {worn, 4095, 4096, m16}} {
		s := h.block()
		for at := range 512 {
			for bit := range 8 {
				changed := put(s, at, string([]byte{s[at] ^ 1<<bit}))
				if at < 64 {
					wantNoHead(t, changed)
				} else {
					wantParsed(t, changed, h)
				}
			}
		}
		wantParsed(t, s[:64]+strings.Repeat("x", 448), h)
		wantParsed(t, s[:64]+strings.Repeat(s[:64], 7), h)
		wantNoHead(t, s[:63]+"x"+strings.Repeat("x", 448))
	}
}

// G2: sectors that are wrong in one field, with a right CRC.
func TestHeadFields(t *testing.T) {
	s := headOf(3, 2, 8, n16)
	for _, c := range []struct {
		at    int
		bytes string
	}{
		{0, "LKEy"}, {0, "lKEY"}, {0, "LP\x00\x00"}, {0, "\x00\x00\x00\x00"},
		{4, by8(0)}, {4, by8(worn + 1)}, {4, by8(1<<63 - 1)}, {4, by8(1 << 63)}, {4, by8(1<<63 + 1)}, {4, by8(1<<64 - 1)},
		{12, by4(1)}, {12, by4(8)}, {12, by4(9)}, {12, by4(4095)}, {12, by4(1 << 31)}, {12, by4(1<<32 - 1)},
		{16, by4(7)}, {16, by4(0)}, {16, by4(2)}, {16, by4(4097)}, {16, by4(1 << 31)}, {16, by4(1<<32 - 1)},
		{40, "\x01"}, {41, "x"}, {63, "\x01"}, {40, n16},
	} {
		wantNoHead(t, checkedHead(put(s, c.at, c.bytes)))
	}
	wantNoHead(t, checkedHead(noughts))
	wantParsed(t, checkedHead(put(s, 16, by4(3000))), top{3, 2, 3000, n16})
	wantParsed(t, checkedHead(put(s, 12, by4(0))), top{3, 0, 8, n16})
	wantParsed(t, checkedHead(put(s, 4, by8(worn))), top{worn, 2, 8, n16})
}

// G2: of heads of any numbers just those are printed that there are, as the chapter says.
func TestAnyHeads(t *testing.T) {
	r := rand.New(rand.NewSource(4))
	for range 20000 {
		blocks := someNumber(r, 7, 8, 9, 100, 4096, 4097)
		h := top{someNumber(r, 0, 1, 2, 9, worn, worn+1), someNumber(r, 0, 0, 1, 2, blocks-1, blocks), blocks, strings.Repeat("n", someNumber(r, 15, 16, 16, 16, 17)&31)}
		if h.mayBe() {
			wantHead(t, h)
		} else {
			wantNoPrint(t, h)
		}
	}
}

// G2: of sectors with some bytes changed, and a right CRC, just those are read that Print makes.
func TestAnySectors(t *testing.T) {
	r := rand.New(rand.NewSource(5))
	right := 0
	for range 20000 {
		s := headOf(1+r.Intn(300), 0, 8+r.Intn(300), n16)
		for range 1 + r.Intn(2) {
			s = put(s, r.Intn(48), string([]byte{byte(r.Intn(256) >> r.Intn(8))}))
		}
		s = checkedHead(s)
		if h, ok := topOf(s); ok {
			right++
			wantParsed(t, s, h)
		} else {
			wantNoHead(t, s)
		}
	}
	if right < 1000 || right > 19000 {
		t.Errorf("%d of the sectors are right", right)
	}
}

// The chapter's example 4.
func TestExample4(t *testing.T) {
	if s, errno := pager.PrintHead(1, 1, 8, n16); s != "" || errno != api.ErrArg {
		t.Errorf("PrintHead(1, 1, 8, n): %q, %d", s, errno)
	}
	s, errno := pager.PrintHead(1, 2, 8, n16)
	wantErrno(t, "PrintHead", errno, api.OK)
	wantParsed(t, s[:64]+strings.Repeat("?", 448), top{1, 2, 8, n16})
}
