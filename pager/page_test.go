package pager_test

import (
	"encoding/binary"
	"math/rand"
	"slices"
	"strings"
	"testing"

	"latchkey/api"
	"latchkey/pager"
)

// mayBe is the chapter's word, a field at a time.
func mayBe(p api.Page) bool {
	switch {
	case p.Kind <= 0 || p.Kind > 255:
		return false
	case p.Number <= 1 || p.Number > 4095:
		return false
	case p.Birth <= 0 || p.Birth > worn:
		return false
	case len(p.Links) > 122 || len(p.Body) > 488-4*len(p.Links):
		return false
	}
	for _, n := range p.Links {
		if n <= 1 || n > 4095 {
			return false
		}
	}
	return true
}

// parsed is the page of a block, by the chapter's words.
func parsed(s string) (api.Page, bool) {
	if len(s) != 512 {
		return api.Page{}, false
	}
	b := []byte(s)
	p := api.Page{Kind: int(b[2]), Number: int(binary.BigEndian.Uint32(b[4:])), Birth: int(binary.BigEndian.Uint64(b[8:]))}
	links, size := int(b[3]), int(binary.BigEndian.Uint16(b[16:]))
	if 4*links+size > 488 {
		return api.Page{}, false
	}
	for n := range links {
		p.Links = append(p.Links, int(binary.BigEndian.Uint32(b[20+4*n:])))
	}
	p.Body = s[20+4*links : 20+4*links+size]
	if !mayBe(p) || blockOf(p) != s {
		return api.Page{}, false
	}
	return p, true
}

// linked are so many links.
func linked(n int) []int { return slices.Repeat([]int{7}, n) }

// body is a text of so many bytes, none of which is a nought.
func body(n int) string { return strings.Repeat("b", n) }

func wantPage(t *testing.T, p api.Page) {
	t.Helper()
	s, errno := pager.PrintPage(p)
	if errno != api.OK || s != blockOf(p) {
		t.Errorf("PrintPage(%v): %q, %d", p, s, errno)
	}
	if q, errno := pager.ParsePage(blockOf(p)); errno != api.OK || !samePage(p, q) {
		t.Errorf("ParsePage of %v: %v, %d", p, q, errno)
	}
}

func wantNoPage(t *testing.T, s string) {
	t.Helper()
	if p, errno := pager.ParsePage(s); errno != api.ErrPagerPage || !noPage(p) {
		t.Errorf("ParsePage of %q: %v, %d", s, p, errno)
	}
}

// The bounds are those that package api names.
func TestBounds(t *testing.T) {
	if api.PageRoom != 488 || api.NoteSize != 16 || api.MaxPins != 4 || api.BlockSize != 512 || api.SectorSize != 64 {
		t.Error("other bounds")
	}
}

// G1: pages that may be, at the edges of each number, there and back.
func TestPages(t *testing.T) {
	for _, p := range []api.Page{
		page(2, ""),
		page(4095, "a"),
		{Kind: 255, Number: 3, Birth: 9, Body: "LP"},
		born(page(2, "a"), worn),
		born(page(2, "a"), worn-1),
		born(page(2, "a"), 1<<53+1),
		page(256, "a", 2),
		page(255, "a", 4095),
		page(2, "a", 2),
		page(5, "a", 9, 9),
		page(5, "a", 9, 3, 3, 256),
		page(5, "", linked(122)...),
		page(5, body(4), linked(121)...),
		page(5, body(484), 7),
		page(5, body(488)),
		page(5, body(487)),
		page(5, body(256)),
		page(5, body(255), 257, 256, 255),
		page(5, "\x00"),
		page(5, strings.Repeat("\x00", 488)),
		page(5, "a\x00b\x00\x00"),
		page(5, "\xff\xfe\x80"+body(9)),
		page(5, "\x00\x00\x00\x07", 7),
	} {
		wantPage(t, p)
	}
}

// G1: pages that may not be.
func TestPagesRefused(t *testing.T) {
	var l []api.Page
	for _, n := range []int{0, 256, -1, 257, 511, least, least + 1, most, 1<<32 + 1} {
		l = append(l, api.Page{Kind: n, Number: 2, Birth: 1})
	}
	for _, n := range []int{1, 4096, 0, -1, -2, 4097, 1<<32 + 2, least, least + 2, most} {
		l = append(l, page(n, "a"), page(2, "a", n), page(2, "a", n, 3, 4), page(2, "a", 3, 4, n), page(2, body(0), append(linked(121), n)...))
	}
	for _, n := range []int{0, worn + 1, -1, most, least, least + 1} {
		l = append(l, born(page(2, "a"), n))
	}
	for links, size := range map[int]int{0: 489, 1: 485, 2: 481, 121: 5, 122: 1, 123: 0, 255: 0, 256: 0, 257: 4, 1000: 0} {
		l = append(l, page(2, body(size), linked(links)...))
	}
	for _, size := range []int{490, 508, 512, 65535, 65536, 65537, 1 << 20} {
		l = append(l, page(2, body(size)))
	}
	for _, p := range l {
		if s, errno := pager.PrintPage(p); errno != api.ErrPagerPage || s != "" {
			t.Errorf("PrintPage of kind %d, number %d, birth %d, %d links, %d bytes: %d", p.Kind, p.Number, p.Birth, len(p.Links), len(p.Body), errno)
		}
	}
}

// G1: a text that has not 512 bytes is no block.
func TestPageSize(t *testing.T) {
	s := blockOf(page(5, "body", 7, 8))
	for _, n := range []int{0, 1, 2, 19, 20, 64, 507, 508, 511} {
		wantNoPage(t, s[:n])
		wantNoPage(t, s[512-n:])
	}
	for _, more := range []string{"\x00", "x", s, noughts} {
		wantNoPage(t, s+more)
		wantNoPage(t, more+s)
	}
	wantNoPage(t, noughts)
}

// G1: each bit of each byte of a block counts.
func TestPageBytes(t *testing.T) {
	for _, p := range []api.Page{page(5, "body", 7, 8), page(2, ""), page(9, body(488)), page(9, "", linked(122)...)} {
		s := blockOf(p)
		for at := range 512 {
			for bit := range 8 {
				wantNoPage(t, put(s, at, string([]byte{s[at] ^ 1<<bit})))
			}
		}
	}
}

// G1: blocks that are wrong in one field, with a right CRC.
func TestPageFields(t *testing.T) {
	s := blockOf(page(5, "body", 7, 8))
	for _, c := range []struct {
		at    int
		bytes string
	}{
		{0, "lP"}, {0, "PL"}, {0, "LK"}, {0, "\x00P"}, {1, "Q"},
		{2, "\x00"},
		{3, "\x01"}, {3, "\x03"}, {3, "\x00"}, {3, "\x7a"}, {3, "\x7b"}, {3, "\xff"},
		{4, by4(0)}, {4, by4(1)}, {4, by4(4096)}, {4, by4(1 << 31)}, {4, by4(1<<32 - 1)},
		{8, by8(0)}, {8, by8(worn + 1)}, {8, by8(1<<63 - 1)}, {8, by8(1 << 63)}, {8, by8(1<<63 + 1)}, {8, by8(1<<64 - 1)},
		{16, "\x00\x03"}, {16, "\x00\x00"}, {16, "\x01\xe1"}, {16, "\x01\xe9"}, {16, "\xff\xff"}, {16, "\x80\x04"}, {16, "\x04\x00"},
		{18, "\x01"}, {19, "\x01"}, {18, "\x00\xff"},
		{20, by4(0)}, {20, by4(1)}, {20, by4(4096)}, {24, by4(0)}, {24, by4(1)}, {24, by4(4096)}, {24, by4(1<<32 - 1)}, {24, by4(1 << 31)},
		{32, "\x01"}, {33, "x"}, {507, "\x01"}, {507, "\xff"},
	} {
		wantNoPage(t, checkedPage(put(s, c.at, c.bytes)))
	}
	wantNoPage(t, checkedPage(noughts))
}

// G1: a field may be another one that may be: that is another page.
func TestPageOtherFields(t *testing.T) {
	s := blockOf(page(5, "body", 7, 8))
	for _, c := range []struct {
		at    int
		bytes string
		want  api.Page
	}{
		{2, "\xff", api.Page{Kind: 255, Number: 5, Birth: 1, Links: []int{7, 8}, Body: "body"}},
		{4, by4(4095), page(4095, "body", 7, 8)},
		{8, by8(worn), born(page(5, "body", 7, 8), worn)},
		{16, "\x00\x05", page(5, "body\x00", 7, 8)},
		{16, "\x01\xe0", page(5, "body"+strings.Repeat("\x00", 476), 7, 8)},
		{24, by4(7), page(5, "body", 7, 7)},
		{28, "dybo", page(5, "dybo", 7, 8)},
	} {
		if p, errno := pager.ParsePage(checkedPage(put(s, c.at, c.bytes))); errno != api.OK || !samePage(p, c.want) {
			t.Errorf("ParsePage with %q at %d: %v, %d", c.bytes, c.at, p, errno)
		}
	}
}

// someNumber is one of these, or any at all.
func someNumber(r *rand.Rand, edges ...int) int {
	if r.Intn(8) > 0 {
		return edges[r.Intn(len(edges))]
	}
	return int(r.Uint64())
}

// anyPage may be, or not.
func anyPage(r *rand.Rand) api.Page {
	p := api.Page{Kind: 1 + r.Intn(255), Number: 2 + r.Intn(4094), Birth: 1 + r.Intn(worn)}
	for range r.Intn(1 + r.Intn(124)) {
		p.Links = append(p.Links, 2+r.Intn(4094))
	}
	b := make([]byte, r.Intn(max(2, 492-4*len(p.Links))))
	r.Read(b)
	p.Body = string(b)
	switch r.Intn(8) {
	case 0:
		p.Kind = someNumber(r, 0, 1, 255, 256)
	case 1:
		p.Number = someNumber(r, 1, 2, 4095, 4096)
	case 2:
		p.Birth = someNumber(r, 0, 1, worn, worn+1)
	case 3:
		if len(p.Links) > 0 {
			p.Links[r.Intn(len(p.Links))] = someNumber(r, 1, 2, 4095, 4096)
		}
	}
	return p
}

// G1, G9: what is printed is what the chapter says, and is read as what it was; what is not printed is refused.
func TestAnyPages(t *testing.T) {
	r := rand.New(rand.NewSource(1))
	may := 0
	for range 20000 {
		p := anyPage(r)
		if mayBe(p) {
			may++
			wantPage(t, p)
		} else if s, errno := pager.PrintPage(p); errno != api.ErrPagerPage || s != "" {
			t.Errorf("PrintPage(%v): %d", p, errno)
		}
	}
	if may < 5000 || may > 19000 {
		t.Errorf("%d of the pages may be", may)
	}
}

// G1, G9: of blocks with some bytes changed, and a right CRC, just those are read that Print makes.
func TestAnyBlocks(t *testing.T) {
	r := rand.New(rand.NewSource(2))
	right := 0
	for range 20000 {
		p := page(2+r.Intn(40), body(r.Intn(20)), linked(r.Intn(5))...)
		s := blockOf(p)
		for range 1 + r.Intn(2) {
			s = put(s, r.Intn(min(508, 24+r.Intn(500))), string([]byte{byte(r.Intn(256) >> r.Intn(8))}))
		}
		s = checkedPage(s)
		want, ok := parsed(s)
		got, errno := pager.ParsePage(s)
		if ok != (errno == api.OK) || !samePage(got, want) || !ok && errno != api.ErrPagerPage {
			t.Fatalf("ParsePage of %q: %v, %d; want %v", s, got, errno, want)
		}
		if ok {
			right++
			wantPage(t, got)
		}
	}
	if right < 1000 || right > 19000 {
		t.Errorf("%d of the blocks are right", right)
	}
}

// G1: texts of any bytes are refused.
func TestNoiseIsNoPage(t *testing.T) {
	r := rand.New(rand.NewSource(3))
	for range 3000 {
		b := make([]byte, 512)
		r.Read(b)
		wantNoPage(t, string(b))
		copy(b, "LP")
		wantNoPage(t, string(b))
		wantNoPage(t, checkedPage(string(b)))
	}
}
