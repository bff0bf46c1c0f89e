package disk_test

import (
	"slices"
	"testing"

	"latchkey/api"
	"latchkey/disk"
)

// wantYoung holds against a disk that was just made what is to last there: it lives, has done no act, is not armed, and nothing is pending.
func wantYoung(t *testing.T, d *disk.Disk, want []string) {
	t.Helper()
	wantState(t, d, false, 0)
	wantPending(t, d)
	if d.Size() != len(want) || !slices.Equal(d.Blocks(), want) {
		t.Fatalf("Size: %d, %d blocks; want %d", d.Size(), len(d.Blocks()), len(want))
	}
	for n, data := range want {
		wantRead(t, d, n, data)
	}
	wantNoRead(t, d, len(want), api.ErrDiskBlock)
	wantUnarmed(t, d)
	wantState(t, d, false, 40)
}

// The bounds are those that package api names.
func TestBounds(t *testing.T) {
	if api.BlockSize != 512 || api.SectorSize != 64 || api.MinBlocks != 8 || api.MaxBlocks != 4096 {
		t.Error("other bounds")
	}
}

// D1: New of as many blocks as may be.
func TestNew(t *testing.T) {
	for _, n := range []int{8, 9, 10, 63, 64, 100, 511, 512, 4095, 4096} {
		d, errno := disk.New(n)
		if errno != api.OK || d == nil {
			t.Fatalf("New(%d): %d", n, errno)
		}
		wantYoung(t, d, slices.Repeat([]string{noughts}, n))
	}
}

// D1: New of too few and of too many.
func TestNewRefused(t *testing.T) {
	for _, n := range []int{7, 4097, 0, 1, -1, -8, -4096, 4098, 1 << 32, 1<<32 + 8, least, least + 8, most} {
		if d, errno := disk.New(n); d != nil || errno != api.ErrArg {
			t.Errorf("New(%d): %v, %d", n, d != nil, errno)
		}
	}
}

// D1: Load of as many texts as may be.
func TestLoad(t *testing.T) {
	for _, n := range []int{8, 9, 100, 4095, 4096} {
		wantYoung(t, loaded(t, images(n)), images(n))
	}
	wantYoung(t, loaded(t, slices.Repeat([]string{noughts}, 8)), slices.Repeat([]string{noughts}, 8))
}

// D1: bytes of all kinds come through, also those that are no text.
func TestLoadAllBytes(t *testing.T) {
	l := images(8)
	for n := range l {
		b := make([]byte, 512)
		for i := range b {
			b[i] = byte(i*7 + n*31)
		}
		l[n] = string(b)
	}
	wantYoung(t, loaded(t, l), l)
}

// D1: Load of too few and of too many texts.
func TestLoadRefused(t *testing.T) {
	for _, n := range []int{0, 1, 7, 4097, 5000} {
		if d, errno := disk.Load(images(n)); d != nil || errno != api.ErrArg {
			t.Errorf("Load of %d: %v, %d", n, d != nil, errno)
		}
	}
	if d, errno := disk.Load(nil); d != nil || errno != api.ErrArg {
		t.Errorf("Load of nil: %v, %d", d != nil, errno)
	}
}

// D1: a text of another size is refused wherever it stands, but too few texts, or too many, come first.
func TestLoadWrongSize(t *testing.T) {
	long := of("x") + of("x")
	for _, size := range []int{0, 1, 64, 511, 513, 1024} {
		for _, at := range []int{0, 1, 4, 6, 7} {
			l := images(8)
			l[at] = long[:size]
			if d, errno := disk.Load(l); d != nil || errno != api.ErrDiskSize {
				t.Errorf("Load with %d bytes at %d: %v, %d", size, at, d != nil, errno)
			}
			few := images(7)
			few[min(at, 6)] = long[:size]
			if d, errno := disk.Load(few); d != nil || errno != api.ErrArg {
				t.Errorf("Load of seven with %d bytes: %v, %d", size, d != nil, errno)
			}
			many := images(4097)
			many[at*500] = long[:size]
			if d, errno := disk.Load(many); d != nil || errno != api.ErrArg {
				t.Errorf("Load of 4097 with %d bytes: %v, %d", size, d != nil, errno)
			}
		}
	}
	l := images(4096)
	l[4095] = l[4095][:511]
	if d, errno := disk.Load(l); d != nil || errno != api.ErrDiskSize {
		t.Errorf("Load of 4096, the last of them short: %v, %d", d != nil, errno)
	}
}

// D1: texts of which one is too long by what another one lacks are no 512 bytes each.
func TestLoadSumOfSizes(t *testing.T) {
	l := images(8)
	l[2], l[3] = l[2][:511], l[3]+"x"
	if d, errno := disk.Load(l); d != nil || errno != api.ErrDiskSize {
		t.Errorf("Load: %v, %d", d != nil, errno)
	}
}
