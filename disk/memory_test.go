package disk_test

import (
	"math/rand"
	"runtime"
	"slices"
	"strings"
	"sync"
	"testing"
	"unsafe"
	"weak"

	"latchkey/api"
	"latchkey/disk"
)

// R2: lists that are handed in stay, and what stands behind them in their memory.
func TestHandedInStays(t *testing.T) {
	r := rand.New(rand.NewSource(30))
	for range 200 {
		l := someImages(r)
		whole := append(slices.Clone(l), "behind", "it", "stands")
		was := slices.Clone(whole)
		d := loaded(t, whole[:len(l)])
		for n := range len(l) {
			wantErrno(t, "Write", d.Write(n, someData(r)), api.OK)
		}
		keeps := someKeeps(r, len(l))
		if r.Intn(2) == 0 {
			keeps = spoilt(r, keeps, len(l))
		}
		wholeKeeps := append(slices.Clone(keeps), api.Keep{N: 7, Sectors: 7}, api.Keep{N: -7})
		wasKeeps := slices.Clone(wholeKeeps)
		d.Crash(wholeKeeps[:len(keeps)])
		wantErrno(t, "Sync", d.Sync(), api.OK)
		if !slices.Equal(whole, was) || !slices.Equal(wholeKeeps, wasKeeps) {
			t.Fatal("a list that was handed in has changed")
		}
	}
}

// R2: a list that is handed in is not kept: what becomes of it changes nothing.
func TestHandedInIsNotKept(t *testing.T) {
	l := images(8)
	d := loaded(t, l)
	clear(l)
	if !slices.Equal(d.Blocks(), images(8)) {
		t.Fatal("the list that was loaded is kept")
	}
	wantErrno(t, "Write", d.Write(1, of("a")), api.OK)
	keeps := []api.Keep{{N: 0, Sectors: 255}}
	wantErrno(t, "Crash", d.Crash(keeps), api.OK)
	keeps[0] = api.Keep{}
	wantRead(t, d, 1, of("a"))
}

// great is a text of many blocks, and what tells whether somebody holds it.
func great() (string, weak.Pointer[byte]) {
	b := make([]byte, 1<<20)
	for n := range b {
		b[n] = byte(n >> 9)
	}
	return unsafe.String(&b[0], len(b)), weak.Make(&b[0])
}

// The language's rule 7: a text that is handed in is not kept, nor the greater one that it is a part of.
func TestTextIsNotKept(t *testing.T) {
	text, held := great()
	list := make([]string, 8)
	for n := range list {
		list[n] = text[512*n : 512*n+512]
	}
	d := loaded(t, list)
	wantErrno(t, "Write", d.Write(1, text[1024:1536]), api.OK)
	wantErrno(t, "Sync", d.Sync(), api.OK)
	wantErrno(t, "Write", d.Write(2, text[2048:2560]), api.OK)
	wantErrno(t, "Write", d.Write(3, text[:512]), api.OK)
	wantErrno(t, "Write", d.Write(3, text[512:1024]), api.OK)
	text, list = "", nil
	runtime.GC()
	if held.Value() != nil {
		t.Error("a text that was handed in is kept")
	}
	wantRead(t, d, 1, of("\x02"))
	wantRead(t, d, 2, of("\x04"))
	wantRead(t, d, 3, of("\x01"))
	wantRead(t, d, 4, of("\x04"))
}

// heldBlocks is the memory of all that a disk gives out, told weakly.
func heldBlocks(d *disk.Disk) []weak.Pointer[byte] {
	var l []weak.Pointer[byte]
	for n := range d.Size() {
		s, _ := d.Read(n)
		l = append(l, weak.Make(unsafe.StringData(s)))
	}
	for _, s := range d.Blocks() {
		l = append(l, weak.Make(unsafe.StringData(s)))
	}
	for _, w := range d.Pending() {
		l = append(l, weak.Make(unsafe.StringData(w.Data)))
	}
	return l
}

// The language's rule 7: what comes out is the asker's alone: nobody else holds it.
func TestAnswersAreNotKept(t *testing.T) {
	d := loaded(t, images(8))
	wantErrno(t, "Write", d.Write(1, of("a")), api.OK)
	wantErrno(t, "Write", d.Write(5, of("b")), api.OK)
	l := heldBlocks(d)
	runtime.GC()
	for n, p := range l {
		if p.Value() != nil {
			t.Fatalf("the answer %d is held", n)
		}
	}
	wantRead(t, d, 5, of("b"))
}

// R2 and the language's rule 7: what comes out is new memory, its spare room and its texts too.
func TestNewMemory(t *testing.T) {
	r := rand.New(rand.NewSource(31))
	for range 50 {
		l := someImages(r)
		d := loaded(t, l)
		texts := []string{}
		for range 12 {
			data := someData(r)
			texts = append(texts, data)
			wantErrno(t, "Write", d.Write(r.Intn(len(l)), data), api.OK)
		}
		in := slices.Concat(listMemory(l), textMemory(l...), textMemory(texts...))
		for range 2 {
			out := outOf(d)
			if share(out, in) {
				t.Fatal("an answer shares memory with what was handed in")
			}
			if overlap(out) {
				t.Fatal("answers share memory")
			}
			wantErrno(t, "Sync", d.Sync(), api.OK)
		}
		runtime.KeepAlive(l)
		runtime.KeepAlive(texts)
	}
}

// outOf is the memory of all that a disk gives out, each call made twice.
func outOf(d *disk.Disk) []memory {
	var pending [][]api.Write // all are held until their memory is told, lest one be laid where another one was
	var blocks [][]string
	var texts []string
	for range 2 {
		pending, blocks = append(pending, d.Pending()), append(blocks, d.Blocks())
		for n := range d.Size() {
			s, _ := d.Read(n)
			texts = append(texts, s)
		}
	}
	out := textMemory(texts...)
	for n := range pending {
		out = append(out, listMemory(pending[n])...)
		for _, w := range pending[n] {
			out = append(out, textMemory(w.Data)...)
		}
		out = append(out, listMemory(blocks[n])...)
		out = append(out, textMemory(blocks[n]...)...)
	}
	runtime.KeepAlive(pending)
	runtime.KeepAlive(blocks)
	runtime.KeepAlive(texts)
	return out
}

// The language's rule 8: behind a Sync and a Crash nothing is kept of what was pending.
func TestNoMoreIsKept(t *testing.T) {
	room := func() uint64 {
		var m runtime.MemStats
		runtime.GC()
		runtime.ReadMemStats(&m)
		return m.HeapAlloc
	}
	d, errno := disk.New(4096)
	wantErrno(t, "New", errno, api.OK)
	data := strings.Repeat("k", 512)
	before := room()
	for range 3 {
		for n := range d.Size() {
			wantErrno(t, "Write", d.Write(n, data), api.OK)
		}
		wantErrno(t, "Crash", d.Crash(nil), api.OK)
	}
	if after := room(); after > before+3<<20 {
		t.Errorf("%d bytes are held, %d were", after, before)
	}
	runtime.KeepAlive(d)
}

// R2: things that have no part in common do not disturb one another, also at the same time.
func TestAtTheSameTime(t *testing.T) {
	var all sync.WaitGroup
	l := images(8)
	for n := range 8 {
		all.Go(func() {
			d, errno := disk.Load(l)
			if errno != api.OK {
				t.Errorf("Load: %d", errno)
				return
			}
			for range 100 {
				for b := range 8 {
					if d.Write(b, marked(n)) != api.OK {
						t.Error("Write")
					}
				}
				d.Arm(1)
				d.Sync()
				d.Crash([]api.Keep{{N: n, Sectors: 255}})
				for b := range 8 {
					if s, errno := d.Read(b); errno != api.OK || s != l[b] && (b != n || s != marked(n)) {
						t.Errorf("Read(%d): %q, %d", b, s, errno)
					}
				}
			}
		})
	}
	all.Wait()
}
