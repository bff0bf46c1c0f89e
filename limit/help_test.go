package limit_test

import (
	"math"
	"math/rand"
	"slices"
	"strings"
	"testing"

	"latchkey/api"
	"latchkey/limit"
)

// The last time of all, and how many names a limiter keeps, as the document writes them out.
const (
	last = 1099511627776
	room = 16
)

var (
	nan      = float32(math.NaN())
	infinite = float32(math.Inf(1))
	minus0   = float32(math.Copysign(0, -1))
	least    = float32(math.SmallestNonzeroFloat32)
	greatest = float32(math.MaxFloat32)
)

func TestBounds(t *testing.T) {
	if api.MaxTime != last || api.MaxBuckets != room || api.MaxName != 16 || api.ErrArg != 1 || api.ErrLimitConfig != 240 || api.ErrLimitOver != 241 {
		t.Fatal("package api has other numbers than the document")
	}
}

// made is a limiter that must be made.
func made(t *testing.T, rate, burst float32) *limit.Limiter {
	t.Helper()
	l, errno := limit.New(rate, burst)
	if l == nil || errno != api.OK {
		t.Fatalf("New(%g, %g): %d", rate, burst, errno)
	}
	return l
}

// same holds two floats against each other by all their bits: so minus 0 is not 0.
func same(a, b float32) bool { return math.Float32bits(a) == math.Float32bits(b) }

// wantTake asks, and wants that answer.
func wantTake(t *testing.T, l *limit.Limiter, name string, cost float32, now, wait int, errno api.Errno) {
	t.Helper()
	if w, e := l.Take(name, cost, now); w != wait || e != errno {
		t.Fatalf("Take(%q, %g, %d): %d, %d, want %d, %d", name, cost, now, w, e, wait, errno)
	}
}

// wantIn asks, and wants to be let in.
func wantIn(t *testing.T, l *limit.Limiter, name string, cost float32, now int) {
	t.Helper()
	wantTake(t, l, name, cost, now, 0, api.OK)
}

// wantOver asks, and wants to be told to wait so long.
func wantOver(t *testing.T, l *limit.Limiter, name string, cost float32, now, wait int) {
	t.Helper()
	wantTake(t, l, name, cost, now, wait, api.ErrLimitOver)
}

// wantLevel wants that level, told again and again: telling changes nothing.
func wantLevel(t *testing.T, l *limit.Limiter, name string, now int, want float32) {
	t.Helper()
	for range 3 {
		if got := l.Level(name, now); !same(got, want) {
			t.Fatalf("Level(%q, %d): %g, want %g", name, now, got, want)
		}
	}
}

// wantNames wants those names, parted by blanks.
func wantNames(t *testing.T, l *limit.Limiter, want string) {
	t.Helper()
	for range 3 {
		if got := l.Names(); !slices.Equal(got, strings.Fields(want)) {
			t.Fatalf("Names: %q, want %q", got, want)
		}
	}
}

// rightNames are texts that are names.
func rightNames() []string {
	l := []string{"a", "z", "0", "9", "-", "_", ".", "ann", "app-1_x.y", strings.Repeat("a", 16), strings.Repeat("-", 16), "..", "abcdefghijklmnop", "qrstuvwxyz-_.012", "3456789"}
	return l
}

// wrongNames are texts that are none.
func wrongNames() []string {
	l := []string{"", strings.Repeat("a", 17), strings.Repeat("a", 5000), "A", "Z", "annA", "a b", " a", "a ", "a\x00", "\x00", "é", "aé", "a\xff", "日", "ａ", "a\n"}
	for c := range 256 {
		if !strings.ContainsRune("abcdefghijklmnopqrstuvwxyz0123456789-_.", rune(c)) {
			l = append(l, string([]byte{byte(c)}), "a"+string([]byte{byte(c)}), string([]byte{byte(c)})+"a")
		}
	}
	return l
}

// wrongAmounts are costs and rates that may not be.
func wrongAmounts() []float32 {
	return []float32{nan, float32(math.Copysign(math.NaN(), -1)), math.Float32frombits(0x7f800001), math.Float32frombits(0xffffffff), infinite, -infinite, -least, -greatest, -1, -0.5, -1e-40}
}

// oddTimes are numbers at which something might turn.
func oddTimes() []int {
	l := []int{math.MinInt, math.MinInt + 1, math.MaxInt - 1, math.MaxInt}
	for _, n := range []int{-2 * last, -last, math.MinInt32, 0, 100, 1 << 24, 1 << 25, math.MaxInt32, 1 << 32, last / 2, last, 2 * last, math.MinInt + last, math.MaxInt - last} {
		l = append(l, n-1, n, n+1)
	}
	return l
}

// oddAmounts are floats that may be, at which something might turn.
func oddAmounts() []float32 {
	l := []float32{0, minus0, least, 2 * least, 1e-40, math.Float32frombits(0x007fffff), math.Float32frombits(0x00800000), 1e-12, 0.1, 1.0 / 3, 0.5, 1, 1.5, 2, 3, 10, 1 << 24, 1<<24 + 2, 1e12, 1e30, greatest / 2, greatest}
	for _, x := range []float32{0.5, 1, 2, 1 << 20} {
		l = append(l, math.Nextafter32(x, 0), math.Nextafter32(x, infinite))
	}
	return l
}

// someTime is a number of any kind, or a time not far from another one.
func someTime(r *rand.Rand, near int) int {
	switch r.Intn(12) {
	case 0:
		l := oddTimes()
		return l[r.Intn(len(l))]
	case 1:
		return int(r.Uint64())
	case 2:
		return int(r.Int63n(last + 1))
	case 3:
		return near + 1<<r.Intn(40)
	case 4:
		return near - r.Intn(50)
	}
	return near + r.Intn(20)
}

// someAmount is a float that may be a rate, and a cost.
func someAmount(r *rand.Rand) float32 {
	switch r.Intn(6) {
	case 0:
		l := oddAmounts()
		return l[r.Intn(len(l))]
	case 1:
		return math.Float32frombits(uint32(r.Intn(0x7f800000)))
	case 2:
		return float32(r.Intn(8))
	case 3:
		return float32(math.Ldexp(r.Float64(), -r.Intn(45)))
	}
	return r.Float32() * 4
}

// someBurst is a float that may be a burst.
func someBurst(r *rand.Rand) float32 {
	for {
		if x := someAmount(r); x > 0 {
			return x
		}
	}
}
