package limit_test

import (
	"math/big"
	"slices"
	"testing"

	"latchkey/api"
	"latchkey/limit"
)

// A plain account of the chapter: it remembers every letting in, and reckons in numbers that are exact, each of which is rounded to a float32.

// letting is one letting in: what was left then, and at what time.
type letting struct {
	name  string
	level float32
	time  int
}

type model struct {
	rate, burst float32
	history     []letting
}

// exact is a float as a number that has room for whatever two floats give.
func exact(x float32) *big.Float { return new(big.Float).SetPrec(1000).SetFloat64(float64(x)) }

// rounded is the float32 that is nearest to a number. (Beyond the greatest one it is infinite.)
func rounded(x *big.Float) float32 {
	n, _ := x.Float32()
	return n
}

func product(a, b float32) float32 {
	return rounded(new(big.Float).SetPrec(1000).Mul(exact(a), exact(b)))
}

// sum is that of two floats, of which but the second one may be infinite.
func sum(a, b float32) float32 {
	if b == infinite {
		return b
	}
	return rounded(new(big.Float).SetPrec(1000).Add(exact(a), exact(b)))
}

func seconds(n int) float32 { return rounded(new(big.Float).SetPrec(1000).SetInt64(int64(n))) }

// rises is a level that so many seconds are added to.
func rises(rate, burst, level float32, n int) float32 {
	if higher := sum(level, product(seconds(n), rate)); higher < burst {
		return higher
	}
	return burst
}

// timeOf is the nearest time of a number.
func timeOf(n int) int {
	switch {
	case n < 0:
		return 0
	case n > last:
		return last
	}
	return n
}

// names are the sixteen that were let in last, each once: a seventeenth takes the place of the one that was let in longest ago.
func (m *model) names() []string {
	var l []string
	for n := len(m.history) - 1; n >= 0 && len(l) < room; n-- {
		if name := m.history[n].name; !slices.Contains(l, name) {
			l = append(l, name)
		}
	}
	return l
}

// kept is what is kept of a name.
func (m *model) kept(name string) (letting, bool) {
	if !slices.Contains(m.names(), name) {
		return letting{}, false
	}
	for n := len(m.history) - 1; ; n-- {
		if m.history[n].name == name {
			return m.history[n], true
		}
	}
}

func (m *model) level(name string, now int) float32 {
	k, there := m.kept(name)
	switch {
	case !there:
		return m.burst
	case timeOf(now) <= k.time:
		return k.level
	}
	return rises(m.rate, m.burst, k.level, timeOf(now)-k.time)
}

// rightName is a name as the document says it.
func rightName(s string) bool {
	if len(s) == 0 || len(s) > 16 {
		return false
	}
	for n := range len(s) {
		if !slices.Contains([]byte("abcdefghijklmnopqrstuvwxyz0123456789-_."), s[n]) {
			return false
		}
	}
	return true
}

// take is what Take answers, but for the seconds: of them there is told of any number whether it is enough.
func (m *model) take(name string, cost float32, now int) (func(w int) bool, api.Errno) {
	if !rightName(name) || cost != cost || cost < 0 || cost == infinite {
		return nil, api.ErrArg
	}
	k, there := m.kept(name)
	if !there {
		k = letting{name, m.burst, timeOf(now)}
	}
	d := 0
	if timeOf(now) > k.time {
		d = timeOf(now) - k.time
	}
	level := m.level(name, now)
	if level < cost {
		return func(w int) bool { return rises(m.rate, m.burst, k.level, d+w) >= cost }, api.ErrLimitOver
	}
	m.history = append(m.history, letting{name, sum(level, -cost), k.time + d})
	return nil, api.OK
}

// both are a limiter and the account of it, held against each other at each call.
type both struct {
	t *testing.T
	l *limit.Limiter
	m *model
}

func bothOf(t *testing.T, rate, burst float32) *both {
	t.Helper()
	return &both{t, made(t, rate, burst), &model{rate: rate, burst: burst}}
}

// take asks both, and tells what both answer.
func (b *both) take(name string, cost float32, now int) (int, api.Errno) {
	b.t.Helper()
	enough, errno := b.m.take(name, cost, now)
	w, e := b.l.Take(name, cost, now)
	if e != errno || e != api.ErrLimitOver && w != 0 {
		b.t.Fatalf("rate %g, burst %g: Take(%q, %g, %d): %d, %d, want %d", b.m.rate, b.m.burst, name, cost, now, w, e, errno)
	}
	if e == api.ErrLimitOver {
		wantLeast(b.t, w, enough)
	}
	return w, e
}

// level asks both.
func (b *both) level(name string, now int) float32 {
	b.t.Helper()
	got := b.l.Level(name, now)
	if want := b.m.level(name, now); !same(got, want) {
		b.t.Fatalf("rate %g, burst %g: Level(%q, %d): %g, want %g", b.m.rate, b.m.burst, name, now, got, want)
	}
	return got
}

// names asks both.
func (b *both) names() []string {
	b.t.Helper()
	got := b.l.Names()
	if want := b.m.names(); !slices.Equal(got, want) {
		b.t.Fatalf("Names: %q, want %q", got, want)
	}
	return got
}

// wantLeast wants the least number of seconds that is enough, or the last one. Near it and from 1 on each lesser one is tried, else some.
func wantLeast(t *testing.T, w int, enough func(w int) bool) {
	t.Helper()
	if w < 1 || w > last || w < last && !enough(w) {
		t.Fatalf("to wait for %d is not enough", w)
	}
	lesser := []int{}
	for n := range 12 {
		lesser = append(lesser, n+1, w-n-1)
	}
	for n := 1; n < 2*last; n *= 2 {
		lesser = append(lesser, n-1, n, n+1, w-n, w-n+1)
	}
	for _, n := range lesser {
		if 1 <= n && n < w && enough(n) {
			t.Fatalf("to wait for %d, when %d would be enough", w, n)
		}
	}
}
