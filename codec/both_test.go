package codec_test

import (
	"math/rand"
	"testing"

	"latchkey/api"
	"latchkey/codec"
)

// step is one thing that is laid down, and read by the same call.
type step struct {
	kind, size, n int // size: of a number, the most of a text
	s             string
}

func (p step) write(w *codec.Writer) {
	switch p.kind {
	case 0:
		w.Num(p.size, p.n)
	case 1:
		w.Text(p.size, p.s)
	default:
		w.Raw(p.s)
	}
}

func (p step) read(r *codec.Reader) step {
	got := p
	switch p.kind {
	case 0:
		got.n = r.Num(p.size)
	case 1:
		got.s = r.Text(p.size)
	default:
		got.s = r.Raw(len(p.s))
	}
	return got
}

// someStep is one that may be laid down.
func someStep(r *rand.Rand) step {
	switch kind := r.Intn(3); kind {
	case 0:
		size := 1 + r.Intn(8)
		n := int(r.Uint64()>>1) & top(size)
		return step{kind: kind, size: size, n: n >> r.Intn(64)}
	case 1:
		most := []int{0, 1, 9, 254, 255, 256, 257, 700, 65535}[r.Intn(9)]
		n := []int{0, r.Intn(most + 1), min(most, 3), most}[r.Intn(4)]
		return step{kind: kind, size: most, s: text(min(n, 2000), r.Int63())}
	default:
		return step{kind: kind, s: text(r.Intn(20), r.Int63())}
	}
}

func laid(steps []step) (string, api.Errno) {
	w := codec.NewWriter()
	for _, p := range steps {
		p.write(w)
	}
	return w.Done()
}

func readAll(steps []step, s string) ([]step, api.Errno) {
	r := codec.NewReader(s)
	var got []step
	for _, p := range steps {
		got = append(got, p.read(r))
	}
	return got, r.Done()
}

// C8.

func TestThereAndBack(t *testing.T) {
	r := rand.New(rand.NewSource(9))
	for range 3000 {
		steps := make([]step, r.Intn(8))
		for at := range steps {
			steps[at] = someStep(r)
		}
		s, e := laid(steps)
		if e != api.OK {
			t.Fatalf("%v: %d", steps, e)
		}
		got, e := readAll(steps, s)
		if e != api.OK {
			t.Fatalf("reading %v: %d", steps, e)
		}
		for at := range steps {
			if got[at] != steps[at] {
				t.Fatalf("%v is read as %v", steps[at], got[at])
			}
		}
		if _, e := readAll(steps, s+text(1+r.Intn(3), r.Int63())); e != api.ErrCodecMore {
			t.Fatalf("%v, longer: %d", steps, e)
		}
		if len(s) == 0 {
			continue
		}
		if _, e := readAll(steps, s[:len(s)-1]); e != api.ErrCodecShort {
			t.Fatalf("%v, one byte shorter: %d", steps, e)
		}
	}
}

// What is read without an error is what a Writer lays down of it: no other text is read so.
func TestNoOtherTextIsRead(t *testing.T) {
	r := rand.New(rand.NewSource(10))
	for range 4000 {
		steps := make([]step, 1+r.Intn(4))
		for at := range steps {
			steps[at] = someStep(r)
		}
		s, _ := laid(steps)
		spoilt := []byte(s)
		for range r.Intn(3) {
			if len(spoilt) > 0 {
				spoilt[r.Intn(min(len(spoilt), 12))] ^= byte(1 << r.Intn(8))
			}
		}
		got, e := readAll(steps, string(spoilt))
		if e != api.OK {
			continue
		}
		if again, e := laid(got); again != string(spoilt) || e != api.OK {
			t.Fatalf("%q is read as %v, which is laid down as %q %d", spoilt, got, again, e)
		}
	}
}

// Every short text, by some calls: it is read whole and laid down again as it was, or refused.
func TestEachShortText(t *testing.T) {
	for at, way := range []struct {
		good  int // how many are read
		steps []step
	}{
		{7, []step{{kind: 0, size: 1}}},
		{49, []step{{kind: 0, size: 2}}},
		{49, []step{{kind: 0, size: 1}, {kind: 0, size: 1}}},
		{1, []step{{kind: 1, size: 0}}},
		{8, []step{{kind: 1, size: 1}}},
		{57, []step{{kind: 1, size: 255}}},
		{8, []step{{kind: 1, size: 256}}},
		{15, []step{{kind: 1, size: 1}, {kind: 1, size: 1}}},
		{56, []step{{kind: 0, size: 1}, {kind: 1, size: 2}}},
		{56, []step{{kind: 2, s: "x"}, {kind: 1, size: 2}}},
	} {
		good := 0
		for n := range 4 {
			each("\x00\x01\x02\x03\x7f\x80\xff", n, func(s string) {
				got, e := readAll(way.steps, s)
				if e != api.OK {
					return
				}
				good++
				if again, e := laid(got); again != s || e != api.OK {
					t.Errorf("%q is read as %v, which is laid down as %q %d", s, got, again, e)
				}
			})
		}
		if good != way.good {
			t.Errorf("way %d: %d texts are read, want %d", at, good, way.good)
		}
	}
}

// Examples 1 to 3.

func TestExampleOne(t *testing.T) {
	s := "\x01\x2c" + "\x02hi" + "\x00\x02hi" + "\x00" + "x"
	wantWrote(t, "example 1", s, api.OK, num(2, 300), txt(255, "hi"), txt(256, "hi"), num(1, 0), raw("x"))
	r := codec.NewReader(s)
	if a, b, c, d, e := r.Num(2), r.Text(255), r.Text(256), r.Num(1), r.Raw(1); a != 300 || b != "hi" || c != "hi" || d != 0 || e != "x" {
		t.Errorf("read: %d %q %q %d %q", a, b, c, d, e)
	}
	if r.Left() != 0 || r.Done() != api.OK {
		t.Errorf("left %d, %d", r.Left(), r.Done())
	}
	r = codec.NewReader(s)
	if n := r.Num(2); n != 300 || r.Done() != api.ErrCodecMore || r.Left() != 9 {
		t.Errorf("by Num(2) alone: %d %d, left %d", n, r.Done(), r.Left())
	}
}

func TestExamplesTwoAndThree(t *testing.T) {
	wantWrote(t, "Num(1, 256)", "", api.ErrCodecRange, num(1, 256))
	wantWrote(t, "Num(8, -1)", "", api.ErrCodecRange, num(8, -1))
	wantWrote(t, "Num(9, 0)", "", api.ErrArg, num(9, 0))
	wantWrote(t, "Text(65536)", "", api.ErrArg, txt(65536, ""))
	wantWrote(t, "Text(1)", "", api.ErrCodecLong, txt(1, "hi"))
	wantRefused(t, "Text(2)", "\x03hi", readText(2), api.ErrCodecLong)
	wantRefused(t, "Text(3)", "\x03hi", readText(3), api.ErrCodecShort)
	wantRefused(t, "Num(8)", "\x80\x00\x00\x00\x00\x00\x00\x00", readNum(8), api.ErrCodecRange)
}
