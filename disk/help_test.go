package disk_test

import (
	"math"
	"slices"
	"strings"
	"testing"
	"unsafe"

	"latchkey/api"
	"latchkey/disk"
)

const (
	least = math.MinInt
	most  = math.MaxInt
)

// of is a block of one byte, over and over.
func of(c string) string { return strings.Repeat(c, 512) }

// noughts is what stands on a new disk.
var noughts = of("\x00")

// marked is a block of which no sector is like another one, nor like one of another mark.
func marked(mark int) string {
	b := make([]byte, 512)
	for n := range b {
		b[n] = byte(mark*8 + n/64 + 1)
	}
	return string(b)
}

// images are so many blocks, no two alike.
func images(n int) []string {
	l := make([]string, n)
	for i := range l {
		l[i] = string([]byte{byte(i), byte(i >> 8)}) + strings.Repeat("i", 510)
	}
	return l
}

// fresh is a new disk of eight blocks.
func fresh(t *testing.T) *disk.Disk {
	t.Helper()
	d, errno := disk.New(8)
	if errno != api.OK || d == nil {
		t.Fatalf("New(8): %d", errno)
	}
	return d
}

// loaded is a disk on which these last.
func loaded(t *testing.T, l []string) *disk.Disk {
	t.Helper()
	d, errno := disk.Load(l)
	if errno != api.OK || d == nil {
		t.Fatalf("Load of %d: %d", len(l), errno)
	}
	return d
}

// killed is a disk of eight blocks that died in a Sync, with these blocks pending, each marked by its number.
func killed(t *testing.T, blocks ...int) *disk.Disk {
	t.Helper()
	d := fresh(t)
	for _, n := range blocks {
		wantErrno(t, "Write", d.Write(n, marked(n)), api.OK)
	}
	wantErrno(t, "Arm", d.Arm(1), api.OK)
	wantErrno(t, "Sync", d.Sync(), api.ErrDead)
	return d
}

func wantErrno(t *testing.T, what string, got, want api.Errno) {
	t.Helper()
	if got != want {
		t.Fatalf("%s: %d, want %d", what, got, want)
	}
}

func wantRead(t *testing.T, d *disk.Disk, block int, want string) {
	t.Helper()
	if got, errno := d.Read(block); got != want || errno != api.OK {
		t.Fatalf("Read(%d): %q, %d; want %q", block, got, errno, want)
	}
}

func wantNoRead(t *testing.T, d *disk.Disk, block int, want api.Errno) {
	t.Helper()
	if got, errno := d.Read(block); got != "" || errno != want {
		t.Fatalf("Read(%d): %d bytes, %d; want %d", block, len(got), errno, want)
	}
}

// wantLasting holds what lasts against these; blocks that are not named last as noughts.
func wantLasting(t *testing.T, d *disk.Disk, want map[int]string) {
	t.Helper()
	l := d.Blocks()
	if len(l) != d.Size() {
		t.Fatalf("%d blocks last of %d", len(l), d.Size())
	}
	for n, got := range l {
		if data, ok := want[n]; ok && got != data || !ok && got != noughts {
			t.Fatalf("of the block %d %q lasts", n, got)
		}
	}
}

func wantPending(t *testing.T, d *disk.Disk, want ...api.Write) {
	t.Helper()
	if got := d.Pending(); !slices.Equal(got, want) {
		t.Fatalf("pending is %#v, want %#v", got, want)
	}
}

// wantState holds against how a disk is: dead or not, and how many acts it has done.
func wantState(t *testing.T, d *disk.Disk, dead bool, acts int) {
	t.Helper()
	if d.Dead() != dead || d.Acts() != acts {
		t.Fatalf("dead: %v, acts: %d; want %v, %d", d.Dead(), d.Acts(), dead, acts)
	}
}

// wantUnarmed tries some acts: none of them is to kill the disk.
func wantUnarmed(t *testing.T, d *disk.Disk) {
	t.Helper()
	for range 40 {
		wantErrno(t, "Sync", d.Sync(), api.OK)
	}
}

// model is the chapter's words: a slot for each block's pending write, and the acts counted as they are tried.
type model struct {
	lasts   [][]byte
	slots   []*string
	tried   int
	done    int
	dies    int // the number of the try in which it dies; 0: it is not armed
	isDead  bool
	written []string // the last Write of each block that was answered OK; empty: none, or a crash came behind it
}

func newModel(l []string) *model {
	m := &model{slots: make([]*string, len(l)), written: make([]string, len(l))}
	for _, s := range l {
		m.lasts = append(m.lasts, []byte(s))
	}
	return m
}

func (m *model) try() api.Errno {
	m.tried++
	if m.tried == m.dies {
		m.isDead = true
		return api.ErrDead
	}
	m.done++
	return api.OK
}

func (m *model) has(block int) bool { return 0 <= block && block < len(m.lasts) }

func (m *model) read(block int) (string, api.Errno) {
	switch {
	case m.isDead:
		return "", api.ErrDead
	case !m.has(block):
		return "", api.ErrDiskBlock
	case m.slots[block] != nil:
		return *m.slots[block], api.OK
	}
	return string(m.lasts[block]), api.OK
}

func (m *model) write(block int, data string) api.Errno {
	switch {
	case len(data) != 512:
		return api.ErrDiskSize
	case m.isDead:
		return api.ErrDead
	case !m.has(block):
		return api.ErrDiskBlock
	}
	errno := m.try()
	if errno == api.OK {
		m.slots[block], m.written[block] = &data, data
	}
	return errno
}

func (m *model) sync() api.Errno {
	if m.isDead {
		return api.ErrDead
	}
	errno := m.try()
	for n, s := range m.slots {
		if errno == api.OK && s != nil {
			m.lasts[n], m.slots[n] = []byte(*s), nil
		}
	}
	return errno
}

func (m *model) arm(n int) api.Errno {
	if n < 0 {
		return api.ErrArg
	}
	if m.isDead {
		return api.ErrDead
	}
	m.dies = 0
	if n > 0 && n < most-m.tried {
		m.dies = m.tried + n
	}
	return api.OK
}

func (m *model) pending() []api.Write {
	var l []api.Write
	for n, s := range m.slots {
		if s != nil {
			l = append(l, api.Write{Block: n, Data: *s})
		}
	}
	return l
}

// mayKeep: does a list name places of what is pending, each once, and sets of sectors?
func mayKeep(l []api.Keep, pending int) bool {
	places := map[int]int{}
	for _, k := range l {
		places[k.N]++
		if k.N < 0 || k.N > pending-1 || places[k.N] > 1 || k.Sectors < 0 || k.Sectors > 255 {
			return false
		}
	}
	return true
}

func (m *model) crash(l []api.Keep) api.Errno {
	pending := m.pending()
	if !mayKeep(l, len(pending)) {
		return api.ErrDiskKeep
	}
	for _, k := range l {
		w := pending[k.N]
		for n := range 512 {
			if inSet(k.Sectors, n/64) {
				m.lasts[w.Block][n] = w.Data[n]
			}
		}
	}
	clear(m.slots)
	clear(m.written)
	m.isDead, m.dies = false, 0
	return api.OK
}

// inSet: is a set divided by two so many times, without the rest, odd?
func inSet(set, sector int) bool {
	for range sector {
		set = (set - set%2) / 2
	}
	return set%2 == 1
}

func (m *model) blocks() []string {
	l := make([]string, len(m.lasts))
	for n, b := range m.lasts {
		l[n] = string(b)
	}
	return l
}

// wantSame holds all that a disk tells against the model.
func wantSame(t *testing.T, d *disk.Disk, m *model) {
	t.Helper()
	if d.Size() != len(m.lasts) {
		t.Fatalf("Size: %d, want %d", d.Size(), len(m.lasts))
	}
	wantState(t, d, m.isDead, m.done)
	wantPending(t, d, m.pending()...)
	if !slices.Equal(d.Blocks(), m.blocks()) {
		t.Fatal("other blocks last")
	}
	for n := -1; n <= len(m.lasts); n++ {
		data, errno := d.Read(n)
		if want, e := m.read(n); data != want || errno != e {
			t.Fatalf("Read(%d): %q, %d; want %q, %d", n, data, errno, want, e)
		}
	}
}

// memory is a piece of it: first and last byte.
type memory [2]uintptr

func textMemory(texts ...string) []memory {
	var all []memory
	for _, s := range texts {
		if p := uintptr(unsafe.Pointer(unsafe.StringData(s))); len(s) > 0 {
			all = append(all, memory{p, p + uintptr(len(s)) - 1})
		}
	}
	return all
}

// listMemory is where a list stands, with its spare room.
func listMemory[T any](l []T) []memory {
	var zero T
	size := uintptr(cap(l)) * unsafe.Sizeof(zero)
	if size == 0 {
		return nil
	}
	p := uintptr(unsafe.Pointer(unsafe.SliceData(l)))
	return []memory{{p, p + size - 1}}
}

// share says whether some of these pieces lie over some of those.
func share(these, those []memory) bool {
	for _, a := range these {
		for _, b := range those {
			if a[0] <= b[1] && b[0] <= a[1] {
				return true
			}
		}
	}
	return false
}

// overlap says whether some of these pieces lie over one another.
func overlap(all []memory) bool {
	for n := range all {
		if share(all[n:n+1], all[n+1:]) {
			return true
		}
	}
	return false
}
