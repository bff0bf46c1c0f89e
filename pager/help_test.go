package pager_test

import (
	"encoding/binary"
	"hash/crc32"
	"math"
	"slices"
	"strings"
	"testing"

	"latchkey/api"
	"latchkey/disk"
	"latchkey/pager"
)

const (
	least = math.MinInt
	most  = math.MaxInt
	worn  = 1 << 62 // the last generation
)

var (
	n16     = strings.Repeat("n", 16)
	m16     = strings.Repeat("m", 16)
	noughts = strings.Repeat("\x00", 512)
)

// blockOf is a page's block, laid out by the chapter's words, whether the page may be or not.
func blockOf(p api.Page) string {
	b := make([]byte, 512)
	copy(b, "LP")
	b[2], b[3] = byte(p.Kind), byte(len(p.Links))
	binary.BigEndian.PutUint32(b[4:], uint32(p.Number))
	binary.BigEndian.PutUint64(b[8:], uint64(p.Birth))
	binary.BigEndian.PutUint16(b[16:], uint16(len(p.Body)))
	at := 20
	for _, n := range p.Links {
		binary.BigEndian.PutUint32(b[at:], uint32(n))
		at += 4
	}
	copy(b[at:508], p.Body)
	return checkedPage(string(b))
}

// checkedPage is a block whose CRC is that of a page.
func checkedPage(s string) string {
	b := []byte(s)
	binary.BigEndian.PutUint32(b[508:], crc32.ChecksumIEEE(b[:508]))
	return string(b)
}

// headOf is a head's block, laid out by the chapter's words, whether there is such a head or not.
func headOf(generation, root, blocks int, note string) string {
	b := make([]byte, 512)
	copy(b, "LKEY")
	binary.BigEndian.PutUint64(b[4:], uint64(generation))
	binary.BigEndian.PutUint32(b[12:], uint32(root))
	binary.BigEndian.PutUint32(b[16:], uint32(blocks))
	copy(b[20:36], note)
	return checkedHead(string(b))
}

// checkedHead is a block whose CRC is that of a head.
func checkedHead(s string) string {
	b := []byte(s)
	binary.BigEndian.PutUint32(b[36:], crc32.ChecksumIEEE(b[:36]))
	return string(b)
}

// put is a text in which other bytes stand from a place on.
func put(s string, at int, bytes string) string {
	return s[:at] + bytes + s[at+len(bytes):]
}

// by8 is a number by eight bytes.
func by8(n uint64) string { return string(binary.BigEndian.AppendUint64(nil, n)) }

// by4 is a number by four bytes.
func by4(n uint32) string { return string(binary.BigEndian.AppendUint32(nil, n)) }

// page is one of a number, with a body and links.
func page(number int, body string, links ...int) api.Page {
	return api.Page{Kind: 1, Number: number, Birth: 1, Links: links, Body: body}
}

// born is a page with another Birth.
func born(p api.Page, birth int) api.Page {
	p.Birth = birth
	return p
}

// fresh is a disk of so many blocks of noughts.
func fresh(t *testing.T, blocks int) *disk.Disk {
	t.Helper()
	d, errno := disk.New(blocks)
	wantErrno(t, "New", errno, api.OK)
	return d
}

// loaded is a disk on which these last.
func loaded(t *testing.T, l []string) *disk.Disk {
	t.Helper()
	d, errno := disk.Load(l)
	wantErrno(t, "Load", errno, api.OK)
	return d
}

// image is what lasts on a disk of so many blocks: two blocks for heads, and pages, each on that of its Number.
func image(blocks int, even, odd string, pages ...api.Page) []string {
	l := slices.Repeat([]string{noughts}, blocks)
	l[0], l[1] = even, odd
	for _, p := range pages {
		l[p.Number] = blockOf(p)
	}
	return l
}

// stored is an image of eight blocks with one head, which is right, and pages.
func stored(generation, root int, pages ...api.Page) []string {
	l := image(8, noughts, noughts, pages...)
	l[generation%2] = headOf(generation, root, 8, n16)
	return l
}

func mounted(t *testing.T, d *disk.Disk) *pager.Pager {
	t.Helper()
	p, errno := pager.Mount(d)
	if errno != api.OK || p == nil {
		t.Fatalf("Mount: %d", errno)
	}
	return p
}

// laid is a disk of eight blocks on which Format laid a store, and its pager.
func laid(t *testing.T) (*disk.Disk, *pager.Pager) {
	t.Helper()
	d := fresh(t, 8)
	wantErrno(t, "Format", pager.Format(d, n16), api.OK)
	return d, mounted(t, d)
}

// grown is one that has behind two commits the generation 3, the root 4, which names 2 and 3, and the free pages 5, 6 and 7.
func grown(t *testing.T) (*disk.Disk, *pager.Pager) {
	t.Helper()
	d, p := laid(t)
	wantCommit(t, p, []api.Page{page(2, "two"), page(3, "three")}, 2, n16, nil, api.OK)
	wantCommit(t, p, []api.Page{page(4, "four", 2, 3)}, 4, m16, nil, api.OK)
	return d, p
}

// kill lets a disk die, while nothing is written.
func kill(t *testing.T, d *disk.Disk) {
	t.Helper()
	wantErrno(t, "Arm", d.Arm(1), api.OK)
	wantErrno(t, "Sync", d.Sync(), api.ErrDead)
}

// revive lets a disk live again; nothing of what was pending stays.
func revive(t *testing.T, d *disk.Disk) {
	t.Helper()
	wantErrno(t, "Crash", d.Crash(nil), api.OK)
}

func wantErrno(t *testing.T, what string, got, want api.Errno) {
	t.Helper()
	if got != want {
		t.Fatalf("%s: %d, want %d", what, got, want)
	}
}

func wantCommit(t *testing.T, p *pager.Pager, fresh []api.Page, root int, note string, gone []int, want api.Errno) {
	t.Helper()
	if got := p.Commit(fresh, root, note, gone); got != want {
		t.Fatalf("Commit(%v, %d, %q, %v): %d, want %d", fresh, root, note, gone, got, want)
	}
}

// samePage: have two pages the same in all their fields?
func samePage(a, b api.Page) bool {
	return a.Kind == b.Kind && a.Number == b.Number && a.Birth == b.Birth && slices.Equal(a.Links, b.Links) && a.Body == b.Body
}

// noPage: is it what stands beside an error?
func noPage(p api.Page) bool { return samePage(p, api.Page{}) && len(p.Links) == 0 }

func wantRead(t *testing.T, p *pager.Pager, want api.Page) {
	t.Helper()
	if got, errno := p.Read(want.Number); errno != api.OK || !samePage(got, want) {
		t.Fatalf("Read(%d): %v, %d; want %v", want.Number, got, errno, want)
	}
}

func wantNoRead(t *testing.T, p *pager.Pager, n int, want api.Errno) {
	t.Helper()
	if got, errno := p.Read(n); errno != want || !noPage(got) {
		t.Fatalf("Read(%d): %v, %d; want %d", n, got, errno, want)
	}
}

func wantNext(t *testing.T, p *pager.Pager, want ...int) {
	t.Helper()
	if got, errno := p.Next(len(want)); errno != api.OK || !slices.Equal(got, want) {
		t.Fatalf("Next(%d): %v, %d; want %v", len(want), got, errno, want)
	}
}

func wantNoNext(t *testing.T, p *pager.Pager, k int, want api.Errno) {
	t.Helper()
	if got, errno := p.Next(k); errno != want || len(got) != 0 {
		t.Fatalf("Next(%d): %v, %d; want %d", k, got, errno, want)
	}
}

func wantPin(t *testing.T, p *pager.Pager, pin int, want api.Errno) {
	t.Helper()
	if got, errno := p.Pin(); got != pin || errno != want {
		t.Fatalf("Pin: %d, %d; want %d, %d", got, errno, pin, want)
	}
}

// wantLast holds the last commit against these, and which pages are reached.
func wantLast(t *testing.T, p *pager.Pager, generation, root int, note string, reached ...int) {
	t.Helper()
	if p.Generation() != generation || p.Root() != root || p.Note() != note || !slices.Equal(p.Reached(), reached) {
		t.Fatalf("generation %d, root %d, note %q, reached %v; want %d, %d, %q, %v", p.Generation(), p.Root(), p.Note(), p.Reached(), generation, root, note, reached)
	}
}

// wantRoom holds against how many pages are free and held.
func wantRoom(t *testing.T, p *pager.Pager, free, held int) {
	t.Helper()
	if p.Free() != free || p.Held() != held {
		t.Fatalf("Free: %d, Held: %d; want %d, %d", p.Free(), p.Held(), free, held)
	}
	if p.Size() != 2+free+held+len(p.Reached()) {
		t.Fatalf("Size: %d, with %d free, %d held, %d reached", p.Size(), free, held, len(p.Reached()))
	}
}

// state is all that a disk tells of itself.
type state struct {
	blocks  []string
	pending []api.Write
	acts    int
	dead    bool
}

func stateOf(d *disk.Disk) state {
	return state{d.Blocks(), d.Pending(), d.Acts(), d.Dead()}
}

// wantUntouched: nothing of a disk is another one than it was.
func wantUntouched(t *testing.T, what string, d *disk.Disk, was state) {
	t.Helper()
	now := stateOf(d)
	if !slices.Equal(now.blocks, was.blocks) || !slices.Equal(now.pending, was.pending) || now.acts != was.acts || now.dead != was.dead {
		t.Fatalf("%s has changed the disk", what)
	}
}

// wantPending holds against what was written and does not last yet.
func wantPending(t *testing.T, d *disk.Disk, want ...api.Write) {
	t.Helper()
	if got := d.Pending(); !slices.Equal(got, want) {
		t.Fatalf("pending is %#v, want %#v", got, want)
	}
}

// keeps lets of each pending write the same sectors stay.
func keeps(d *disk.Disk, sectors int) []api.Keep {
	var l []api.Keep
	for n := range d.Pending() {
		l = append(l, api.Keep{N: n, Sectors: sectors})
	}
	return l
}
