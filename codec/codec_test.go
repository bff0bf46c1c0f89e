package codec_test

import (
	"math/big"
	"math/rand"
	"slices"
	"strings"
	"testing"

	"latchkey/api"
	"latchkey/codec"
)

const greatest = 1<<63 - 1

// number is n by so many bytes, the highest first.
func number(size, n int) string {
	return string(big.NewInt(int64(n)).FillBytes(make([]byte, size)))
}

// top is the greatest number that stands by so many bytes.
func top(size int) int {
	if size == 8 {
		return greatest
	}
	n := new(big.Int).Lsh(big.NewInt(1), uint(8*size))
	return int(n.Int64()) - 1
}

// text is one of n bytes, of all kinds.
func text(n int, seed int64) string {
	b := make([]byte, n)
	rand.New(rand.NewSource(seed)).Read(b)
	return string(b)
}

// wrote is what a new Writer tells behind these calls.
func wrote(calls ...func(w *codec.Writer)) (string, api.Errno) {
	w := codec.NewWriter()
	for _, call := range calls {
		call(w)
	}
	return w.Done()
}

func wantWrote(t *testing.T, what, want string, wantErr api.Errno, calls ...func(w *codec.Writer)) {
	t.Helper()
	if s, e := wrote(calls...); s != want || e != wantErr {
		t.Errorf("%s: %q %d, want %q %d", what, s, e, want, wantErr)
	}
}

func num(size, n int) func(w *codec.Writer) {
	return func(w *codec.Writer) { w.Num(size, n) }
}

func txt(most int, s string) func(w *codec.Writer) {
	return func(w *codec.Writer) { w.Text(most, s) }
}

func raw(s string) func(w *codec.Writer) {
	return func(w *codec.Writer) { w.Raw(s) }
}

// C1.

func TestNumSizes(t *testing.T) {
	for _, size := range []int{-greatest - 1, -8, -1, 0, 9, 10, 16, 64, 65, 1 << 32, greatest} {
		for _, n := range []int{-greatest - 1, -1, 0, 1, 255, greatest} {
			wantWrote(t, "Num", "", api.ErrArg, num(size, n))
		}
	}
}

func TestNumEnds(t *testing.T) {
	for size := 1; size <= 8; size++ {
		for _, n := range []int{0, 1, 127, 128, 255, top(size)/2 + 1, top(size) - 1, top(size)} {
			wantWrote(t, "Num within", number(size, n), api.OK, num(size, n))
		}
		beyond := []int{-1, -2, -255, -256, -greatest - 1}
		if size < 8 {
			beyond = append(beyond, top(size)+1, top(size)+2, 2*(top(size)+1)-1, greatest)
		}
		for _, n := range beyond {
			wantWrote(t, "Num beyond", "", api.ErrCodecRange, num(size, n))
		}
	}
}

func TestNumIsPlaced(t *testing.T) {
	wantWrote(t, "Num(2, 300)", "\x01\x2c", api.OK, num(2, 300))
	wantWrote(t, "Num(8, ..)", "\x01\x02\x03\x04\x05\x06\x07\x08", api.OK, num(8, 0x0102030405060708))
	wantWrote(t, "Num(5, 1)", "\x00\x00\x00\x00\x01", api.OK, num(5, 1))
}

func TestTextMost(t *testing.T) {
	for _, most := range []int{-greatest - 1, -65536, -1, 65536, 65537, 1 << 20, greatest} {
		for _, s := range []string{"", "x", text(70000, 1)} {
			wantWrote(t, "Text", "", api.ErrArg, txt(most, s))
		}
	}
	for _, most := range []int{0, 1, 2, 254, 255, 256, 257, 65534, 65535} {
		size := 1
		if most > 255 {
			size = 2
		}
		for _, n := range []int{0, most / 2, max(most-1, 0), most} {
			s := text(n, int64(n))
			wantWrote(t, "Text within", number(size, n)+s, api.OK, txt(most, s))
		}
		for _, n := range []int{most + 1, most + 256, most + 65536} {
			wantWrote(t, "Text beyond", "", api.ErrCodecLong, txt(most, text(n, 2)))
		}
	}
}

func TestRaw(t *testing.T) {
	wantWrote(t, "nothing", "", api.OK)
	wantWrote(t, "Raw of nothing", "", api.OK, raw(""), raw(""))
	wantWrote(t, "Raw", "\x00\xff\n", api.OK, raw("\x00"), raw(""), raw("\xff\n"))
	long := text(200000, 3)
	wantWrote(t, "Raw of many", long+"x", api.OK, raw(long), raw("x"))
}

type small uint8

// numbers holds Numbers of one kind against Num of each.
func numbers[T ~int | ~int32 | ~int64 | ~uint8 | ~uint16 | ~uint32](t *testing.T, l ...T) {
	t.Helper()
	for size := -1; size <= 9; size++ {
		for n := range len(l) + 1 {
			one := codec.NewWriter()
			for _, x := range l[:n] {
				one.Num(size, int(x))
			}
			want, wantErr := one.Done()
			got, gotErr := wrote(func(w *codec.Writer) { codec.Numbers(w, size, l[:n]...) })
			if got != want || gotErr != wantErr {
				t.Errorf("Numbers(%d, %v): %q %d, want %q %d", size, l[:n], got, gotErr, want, wantErr)
			}
		}
	}
}

func TestNumbersOfEachKind(t *testing.T) {
	numbers(t, 0, 7, 255, 256, 65536, greatest, -1, 3)
	numbers[int](t, -1, 5)
	numbers[int32](t, 0, 1<<31-1, 9, -1<<31, 2)
	numbers[int64](t, 0, 1<<40, greatest, -greatest-1)
	numbers[uint8](t, 0, 128, 255)
	numbers[uint16](t, 0, 1, 256, 65535, 4)
	numbers[uint32](t, 1<<31, 1<<32-1, 0)
	numbers[small](t, 200, 0, 255)
}

func TestNumbersAreTold(t *testing.T) {
	wantWrote(t, "two", "\x07\x09", api.OK, func(w *codec.Writer) { codec.Numbers(w, 1, 7, 9) })
	wantWrote(t, "greatest uint32", "\xff\xff\xff\xff", api.OK, func(w *codec.Writer) { codec.Numbers(w, 4, uint32(1<<32-1)) })
	wantWrote(t, "none, of no size", "", api.OK, func(w *codec.Writer) { codec.Numbers[int](w, 0) })
	wantWrote(t, "none, of a size", "", api.OK, func(w *codec.Writer) { codec.Numbers[uint16](w, 3) })
	wantWrote(t, "one that does not stand", "", api.ErrCodecRange, func(w *codec.Writer) {
		codec.Numbers(w, 1, 7, 256, 9)
		w.Num(0, 0)
	})
	wantWrote(t, "behind others", "a\x00\x01b", api.OK, raw("a"), func(w *codec.Writer) { codec.Numbers(w, 2, small(1)) }, raw("b"))
}

func TestNumbersLeavesTheList(t *testing.T) {
	whole := []int32{5, 6, 7, 8, 9}
	was := slices.Clone(whole)
	w := codec.NewWriter()
	codec.Numbers(w, 4, whole[1:3]...)
	if !slices.Equal(whole, was) {
		t.Errorf("the list became %v", whole)
	}
	whole[1], whole[2] = 0, 0
	if s, e := w.Done(); s != number(4, 6)+number(4, 7) || e != api.OK {
		t.Errorf("what was laid down hangs on the list: %q %d", s, e)
	}
}

// C2.

func TestWriterDone(t *testing.T) {
	w := codec.NewWriter()
	want := ""
	for n := range 50 {
		for range 2 {
			if s, e := w.Done(); s != want || e != api.OK {
				t.Fatalf("Done behind %d: %q %d, want %q", n, s, e, want)
			}
		}
		w.Num(2, n)
		w.Text(9, "t")
		want += number(2, n) + "\x01t"
	}
}

func TestWriterKeepsTheFirstFault(t *testing.T) {
	faults := []struct {
		call func(w *codec.Writer)
		e    api.Errno
	}{
		{num(0, 0), api.ErrArg},
		{num(1, 256), api.ErrCodecRange},
		{txt(-1, ""), api.ErrArg},
		{txt(1, "hi"), api.ErrCodecLong},
		{func(w *codec.Writer) { codec.Numbers(w, 1, 1, -1) }, api.ErrCodecRange},
	}
	for _, first := range faults {
		w := codec.NewWriter()
		w.Raw("ahead")
		first.call(w)
		for _, then := range faults {
			w.Raw("x")
			w.Num(1, 1)
			w.Text(1, "y")
			codec.Numbers(w, 1, 2)
			then.call(w)
			for range 2 {
				if s, e := w.Done(); s != "" || e != first.e {
					t.Fatalf("%q %d, want none and %d", s, e, first.e)
				}
			}
		}
	}
}

func TestTwoWriters(t *testing.T) {
	a, b, c := codec.NewWriter(), codec.NewWriter(), codec.NewWriter()
	for n := range 20 {
		a.Num(1, n)
		b.Num(1, 100+n)
		c.Num(1, 250+n)
	}
	first, _ := a.Done()
	a.Raw("more")
	second, _ := a.Done()
	other, e := b.Done()
	if len(first) != 20 || second != first+"more" || len(other) != 20 || e != api.OK || first[3] != 3 || other[3] != 103 {
		t.Errorf("%q %q %q %d", first, second, other, e)
	}
	if s, e := c.Done(); s != "" || e != api.ErrCodecRange {
		t.Errorf("the third: %q %d", s, e)
	}
}

// C3.

// read is one call of a Reader: what it tells, as text or number.
type read func(r *codec.Reader) (int, string)

func readNum(size int) read {
	return func(r *codec.Reader) (int, string) { return r.Num(size), "" }
}

func readText(most int) read {
	return func(r *codec.Reader) (int, string) { return 0, r.Text(most) }
}

func readRaw(n int) read {
	return func(r *codec.Reader) (int, string) { return 0, r.Raw(n) }
}

// wantRefused: a call with which something is wrong takes nothing, and no call behind it does.
func wantRefused(t *testing.T, what, s string, call read, want api.Errno) {
	t.Helper()
	r := codec.NewReader(s)
	calls := []read{call, readNum(1), readText(255), readRaw(0), readRaw(1), readNum(0), readText(-1), readRaw(-1), readRaw(len(s) + 1), readNum(8), call}
	for at, c := range calls {
		if n, got := c(r); n != 0 || got != "" {
			t.Errorf("%s of %q, call %d: %d %q", what, s, at, n, got)
		}
		if r.Left() != len(s) || r.Done() != want {
			t.Errorf("%s of %q, call %d: left %d, %d, want %d", what, s, at, r.Left(), r.Done(), want)
		}
	}
}

func TestReadNum(t *testing.T) {
	for _, size := range []int{-greatest - 1, -1, 0, 9, 10, 1 << 32, greatest} {
		for _, s := range []string{"", "x", strings.Repeat("\xff", 20)} {
			wantRefused(t, "Num", s, readNum(size), api.ErrArg)
		}
	}
	for size := 1; size <= 8; size++ {
		for n := range size {
			wantRefused(t, "Num", strings.Repeat("\xff", n), readNum(size), api.ErrCodecShort)
		}
		for _, n := range []int{0, 1, 127, 128, 255, top(size) / 2, top(size)/2 + 1, top(size)} {
			r := codec.NewReader(number(size, n) + "\xff\x01")
			if got := r.Num(size); got != n || r.Left() != 2 {
				t.Errorf("Num(%d): %d, left %d, want %d", size, got, r.Left(), n)
			}
		}
	}
}

func TestReadNumRange(t *testing.T) {
	for _, first := range []string{"\x80", "\x81", "\xff"} {
		wantRefused(t, "Num", first+strings.Repeat("\x00", 7), readNum(8), api.ErrCodecRange)
		wantRefused(t, "Num", first+strings.Repeat("\xff", 9), readNum(8), api.ErrCodecRange)
		wantRefused(t, "Num", first+strings.Repeat("\xff", 6), readNum(8), api.ErrCodecShort)
	}
	if n := codec.NewReader(strings.Repeat("\xff", 7)).Num(7); n != 1<<56-1 {
		t.Errorf("seven bytes: %d", n)
	}
}

func TestReadText(t *testing.T) {
	for _, most := range []int{-greatest - 1, -1, 65536, 65537, greatest} {
		for _, s := range []string{"", "\x00", "\x00\x00", "\x01x", "\xff\xff"} {
			wantRefused(t, "Text", s, readText(most), api.ErrArg)
		}
	}
	for _, most := range []int{0, 1, 254, 255, 256, 257, 65534, 65535} {
		size := 1
		if most > 255 {
			size = 2
		}
		for n := range size {
			wantRefused(t, "Text", strings.Repeat("\x00", n), readText(most), api.ErrCodecShort)
		}
		for _, n := range []int{0, most / 2, most} {
			want := text(n, 7)
			r := codec.NewReader(number(size, n) + want + "xyz")
			if s := r.Text(most); s != want || r.Left() != 3 {
				t.Errorf("Text(%d) of %d bytes: %d bytes, left %d", most, n, len(s), r.Left())
			}
			if n > 0 {
				wantRefused(t, "Text", number(size, n)+want[1:], readText(most), api.ErrCodecShort)
				wantRefused(t, "Text", number(size, n), readText(most), api.ErrCodecShort)
			}
		}
	}
}

func TestReadTextTooLong(t *testing.T) {
	wantRefused(t, "Text", "\x01x", readText(0), api.ErrCodecLong)
	wantRefused(t, "Text", "\x01", readText(0), api.ErrCodecLong)
	wantRefused(t, "Text", "\x03hi", readText(2), api.ErrCodecLong)
	wantRefused(t, "Text", "\x03hi!", readText(2), api.ErrCodecLong)
	wantRefused(t, "Text", "\xff", readText(254), api.ErrCodecLong)
	wantRefused(t, "Text", "\x01\x01"+text(257, 4), readText(256), api.ErrCodecLong)
	wantRefused(t, "Text", "\xff\xff", readText(65534), api.ErrCodecLong)
	wantRefused(t, "Text", "\x03hi", readText(3), api.ErrCodecShort)
}

func TestReadRaw(t *testing.T) {
	for _, n := range []int{-greatest - 1, -2, -1} {
		for _, s := range []string{"", "x", "xyz"} {
			wantRefused(t, "Raw", s, readRaw(n), api.ErrArg)
		}
	}
	for _, s := range []string{"", "x", "\x00\xff\n"} {
		for _, n := range []int{len(s) + 1, len(s) + 2, 1 << 40, greatest} {
			wantRefused(t, "Raw", s, readRaw(n), api.ErrCodecShort)
		}
		for n := range len(s) + 1 {
			r := codec.NewReader(s)
			if got := r.Raw(n); got != s[:n] || r.Left() != len(s)-n {
				t.Errorf("Raw(%d) of %q: %q, left %d", n, s, got, r.Left())
			}
		}
	}
}

func TestWrongInBetween(t *testing.T) {
	r := codec.NewReader("\x05\x01x\x09yz")
	if n, s := r.Num(1), r.Text(3); n != 5 || s != "x" {
		t.Fatalf("%d %q", n, s)
	}
	if s := r.Text(8); s != "" || r.Left() != 3 || r.Done() != api.ErrCodecLong {
		t.Errorf("%q, left %d, %d", s, r.Left(), r.Done())
	}
	if n, s := r.Num(1), r.Raw(9); n != 0 || s != "" || r.Left() != 3 || r.Done() != api.ErrCodecLong {
		t.Errorf("behind that: %d %q, left %d, %d", n, s, r.Left(), r.Done())
	}
}

// C4.

func TestReaderDone(t *testing.T) {
	s := text(40, 5)
	r := codec.NewReader(s)
	for n := range len(s) {
		for range 2 {
			if r.Left() != len(s)-n || r.Done() != api.ErrCodecMore {
				t.Fatalf("behind %d: left %d, %d", n, r.Left(), r.Done())
			}
		}
		if b := r.Num(1); b != int(s[n]) {
			t.Fatalf("byte %d: %d", n, b)
		}
	}
	for range 2 {
		if r.Left() != 0 || r.Done() != api.OK {
			t.Errorf("all is taken: left %d, %d", r.Left(), r.Done())
		}
	}
	if n := r.Num(1); n != 0 || r.Done() != api.ErrCodecShort {
		t.Errorf("behind all: %d %d", n, r.Done())
	}
	if e := codec.NewReader("").Done(); e != api.OK {
		t.Errorf("of nothing: %d", e)
	}
}

func TestTwoReaders(t *testing.T) {
	s := "\x01\x02\x03\x04"
	a, b, c := codec.NewReader(s), codec.NewReader(s), codec.NewReader("\x80\x81")
	if n := a.Num(2); n != 0x0102 {
		t.Errorf("a: %d", n)
	}
	c.Num(0)
	if n := b.Num(1); n != 1 || b.Left() != 3 || a.Left() != 2 {
		t.Errorf("b: %d, left %d and %d", n, b.Left(), a.Left())
	}
	if n, m := a.Num(2), b.Num(3); n != 0x0304 || m != 0x020304 {
		t.Errorf("%d %d", n, m)
	}
	if a.Done() != api.OK || b.Done() != api.OK || c.Done() != api.ErrArg || c.Left() != 2 {
		t.Errorf("%d %d %d", a.Done(), b.Done(), c.Done())
	}
}
