package check_test

import (
	"encoding/binary"
	"hash/crc32"
	"maps"
	"slices"
	"strings"
	"testing"

	"latchkey/api"
	"latchkey/check"
	"latchkey/disk"
	"latchkey/pager"
	"latchkey/tree"
)

var (
	n16     = strings.Repeat("n", 16)
	m16     = strings.Repeat("m", 16)
	noughts = strings.Repeat("\x00", 512)
)

// blockOf is a page's block, laid out by chapter 9's words, whether the page may be or not.
func blockOf(p api.Page) string {
	b := make([]byte, 512)
	copy(b, "LP")
	b[2], b[3] = byte(p.Kind), byte(len(p.Links))
	binary.BigEndian.PutUint32(b[4:], uint32(p.Number))
	binary.BigEndian.PutUint64(b[8:], uint64(p.Birth))
	binary.BigEndian.PutUint16(b[16:], uint16(len(p.Body)))
	at := 20
	for _, n := range p.Links {
		binary.BigEndian.PutUint32(b[at:], uint32(n))
		at += 4
	}
	copy(b[at:508], p.Body)
	return checkedPage(string(b))
}

// checkedPage is a block whose CRC is that of a page.
func checkedPage(s string) string {
	b := []byte(s)
	binary.BigEndian.PutUint32(b[508:], crc32.ChecksumIEEE(b[:508]))
	return string(b)
}

// headOf is a head's block, laid out by chapter 9's words, whether there is such a head or not.
func headOf(generation, root, blocks int) string {
	b := make([]byte, 512)
	copy(b, "LKEY")
	binary.BigEndian.PutUint64(b[4:], uint64(generation))
	binary.BigEndian.PutUint32(b[12:], uint32(root))
	binary.BigEndian.PutUint32(b[16:], uint32(blocks))
	copy(b[20:36], n16)
	return checkedHead(string(b))
}

// checkedHead is a block whose CRC is that of a head.
func checkedHead(s string) string {
	b := []byte(s)
	binary.BigEndian.PutUint32(b[36:], crc32.ChecksumIEEE(b[:36]))
	return string(b)
}

// put is a text in which other bytes stand from a place on.
func put(s string, at int, bytes string) string {
	return s[:at] + bytes + s[at+len(bytes):]
}

// turned is a text of whose bytes one is another one.
func turned(s string, at int) string {
	return put(s, at, string([]byte{s[at] ^ 0x10}))
}

// leafOf is the page of one of keys and values, by turns.
func leafOf(texts ...string) api.Page {
	body := []byte{byte(len(texts) / 2)}
	for _, text := range texts {
		body = append(append(body, byte(len(text))), text...)
	}
	return api.Page{Kind: 1, Birth: 1, Body: string(body)}
}

// leaf is one of some keys, parted by spaces, whose values make it great enough: 120 bytes at least.
func leaf(keys string) api.Page {
	var texts []string
	l := strings.Fields(keys)
	for _, key := range l {
		texts = append(texts, key, strings.Repeat("v", 120/len(l)))
	}
	return leafOf(texts...)
}

// sized is a leaf of one key, of so many bytes: 3 at the least.
func sized(key string, size int) api.Page {
	return leafOf(key, strings.Repeat("v", size-2-len(key)))
}

// inner is the page of an inner node; its keys stand with a space between each two.
func inner(keys string, kids ...int) api.Page {
	l := strings.Fields(keys)
	body := []byte{byte(len(l))}
	for _, key := range l {
		body = append(append(body, byte(len(key))), key...)
	}
	return api.Page{Kind: 2, Birth: 1, Links: kids, Body: string(body)}
}

// long is a key of 36 bytes: an inner node of three of these is great enough.
func long(letter string) string { return letter + strings.Repeat("-", 36-len(letter)) }

// pages are those of an image, by their numbers.
type pages map[int]api.Page

// with is the same with another page.
func (p pages) with(number int, page api.Page) pages {
	p = maps.Clone(p)
	p[number] = page
	return p
}

// image is one of so many blocks, with a head of the generation 4 and that root.
func (p pages) image(blocks, root int) []string {
	l := slices.Repeat([]string{noughts}, blocks)
	l[0] = headOf(4, root, blocks)
	for number, page := range p {
		page.Number = number
		l[number] = blockOf(page)
	}
	return l
}

// low is a right tree of two levels: its root is the page 2, its leaves are 3 and 4.
func low() pages {
	return pages{2: inner("m", 3, 4), 3: leaf("a b"), 4: leaf("m x z")}
}

// high is a right tree of three levels: the root 2, the inner pages 3 and 4, and eight leaves, 5 to 12.
func high() pages {
	return pages{
		2: inner("m", 3, 4),
		3: inner(long("d")+" "+long("g")+" "+long("j"), 5, 6, 7, 8),
		4: inner(long("p")+" "+long("s")+" "+long("v"), 9, 10, 11, 12),
		5: leaf("a"), 6: leaf("e f"), 7: leaf("h"), 8: leaf("k l"),
		9: leaf("n"), 10: leaf("q"), 11: leaf("t u"), 12: leaf("w z"),
	}
}

// found are findings: kinds and pages, by turns.
func found(l ...int) []api.Finding {
	var all []api.Finding
	for i := 0; i < len(l); i += 2 {
		all = append(all, api.Finding{Kind: l[i], Page: l[i+1]})
	}
	return all
}

func wantErrno(t *testing.T, what string, got, want api.Errno) {
	t.Helper()
	if got != want {
		t.Fatalf("%s: %d, want %d", what, got, want)
	}
}

// wantFound says what Image finds, by kinds and pages, by turns; if that is something, Tally tells nothing.
func wantFound(t *testing.T, what string, l []string, want ...int) {
	t.Helper()
	got, errno := check.Image(l)
	if errno != api.OK || !slices.Equal(got, found(want...)) {
		t.Errorf("%s: Image: %v, %d; want %v", what, got, errno, found(want...))
	}
	if len(want) > 0 {
		wantNoTally(t, what, l)
	}
}

func wantTally(t *testing.T, what string, l []string, pages, free, keys int) {
	t.Helper()
	if a, b, c, errno := check.Tally(l); a != pages || b != free || c != keys || errno != api.OK {
		t.Errorf("%s: Tally: %d, %d, %d, %d; want %d, %d, %d", what, a, b, c, errno, pages, free, keys)
	}
}

func wantNoTally(t *testing.T, what string, l []string) {
	t.Helper()
	if a, b, c, errno := check.Tally(l); a != 0 || b != 0 || c != 0 || errno != api.ErrCheckImage {
		t.Errorf("%s: Tally: %d, %d, %d, %d; want nothing, %d", what, a, b, c, errno, api.ErrCheckImage)
	}
}

// wantNoImage says that a list is no image.
func wantNoImage(t *testing.T, what string, l []string) {
	t.Helper()
	if got, errno := check.Image(l); len(got) != 0 || errno != api.ErrCheckImage {
		t.Errorf("%s: Image: %v, %d; want none, %d", what, got, errno, api.ErrCheckImage)
	}
	wantNoTally(t, what, l)
}

// wantMounts says that a disk that was loaded of an image is mounted, and has as many pages as Tally says.
func wantMounts(t *testing.T, what string, l []string) {
	t.Helper()
	d, errno := disk.Load(l)
	wantErrno(t, what+": Load", errno, api.OK)
	p, errno := pager.Mount(d)
	wantErrno(t, what+": Mount", errno, api.OK)
	pages, free, _, errno := check.Tally(l)
	wantErrno(t, what+": Tally", errno, api.OK)
	if pages != len(p.Reached()) || free != p.Free() {
		t.Fatalf("%s: Tally: %d, %d; Reached: %d, Free: %d", what, pages, free, len(p.Reached()), p.Free())
	}
}

// store is a disk, its pager, and the tree of that.
type store struct {
	d *disk.Disk
	p *pager.Pager
	x *tree.Tree
}

// began is a store of so many blocks, with nothing in it.
func began(t *testing.T, blocks int) *store {
	t.Helper()
	d, errno := disk.New(blocks)
	wantErrno(t, "New", errno, api.OK)
	wantErrno(t, "Format", pager.Format(d, m16), api.OK)
	return mounted(t, d)
}

// mounted is the store that stands on a disk.
func mounted(t *testing.T, d *disk.Disk) *store {
	t.Helper()
	p, errno := pager.Mount(d)
	wantErrno(t, "Mount", errno, api.OK)
	return &store{d, p, tree.Open(p)}
}

// loaded is the store that stands on an image.
func loaded(t *testing.T, l []string) *store {
	t.Helper()
	d, errno := disk.Load(l)
	wantErrno(t, "Load", errno, api.OK)
	return mounted(t, d)
}

// far is a key of 36 bytes that has 33 in common with all others of its kind, so that what parts two of them is long.
func far(n int) string {
	return strings.Repeat("p", 33) + string([]byte{byte('a' + n/676), byte('a' + n/26%26), byte('a' + n%26)})
}

// remote is a store in which so many far keys were committed, with values of 200 bytes: 75 of them make three levels.
func remote(t *testing.T, blocks, keys int) *store {
	t.Helper()
	s := began(t, blocks)
	for n := range keys {
		wantErrno(t, "Put", s.x.Put(far(n), strings.Repeat("v", 200)), api.OK)
	}
	wantErrno(t, "Commit", s.x.Commit(n16), api.OK)
	return s
}
