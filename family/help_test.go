package family_test

import (
	"math"
	"reflect"
	"strings"
	"testing"

	"latchkey/api"
	"latchkey/family"
)

const (
	least    = math.MinInt
	most     = math.MaxInt
	lastTime = 1 << 40
	lastID   = 1 << 62
	lastGen  = 1 << 30
)

// many is a text so many times.
func many(n int, s string) string { return strings.Repeat(s, n) }

// secret is a letter's.
func secret(letter string) string { return many(24, letter) }

// app is the client of the chapter's examples.
func app() api.Client {
	return api.Client{Name: "app", Public: true, Scope: []string{"read", "write"}, Idle: 50, Absolute: 120, Grace: 10, Life: 20}
}

// usual is what Begin is asked in them.
func usual() birth {
	return birth{id: 1, first: 2, client: app(), subject: "ann", secret: secret("s"), scope: []string{"read"}, now: 100}
}

// begun is that family, with its first token.
func begun(t *testing.T) (api.Family, api.Token) {
	t.Helper()
	f, k, errno := usual().begin()
	if errno != api.OK {
		t.Fatalf("Begin: %d", errno)
	}
	return f, k
}

// rotated is that family behind its first rotation: at 110, to the token 3.
func rotated(t *testing.T) (f api.Family, spent, fresh api.Token) {
	t.Helper()
	f, k := begun(t)
	f, spent, fresh, errno := family.Rotate(f, k, 3, secret("n"), 110)
	if errno != api.OK {
		t.Fatalf("Rotate: %d", errno)
	}
	return f, spent, fresh
}

// begin is Begin of what is asked.
func (b birth) begin() (api.Family, api.Token, api.Errno) {
	return family.Begin(b.id, b.first, b.client, b.subject, b.scope, b.secret, b.now)
}

// plain is a record whose list without elements is nil, for it may be nil or not.
func plain[R any](record R) R {
	v := reflect.ValueOf(&record).Elem()
	if f := v.FieldByName("Scope"); f.IsValid() && f.Len() == 0 {
		f.SetZero()
	}
	return record
}

// same says whether two records have the same fields.
func same[R any](a, b R) bool { return reflect.DeepEqual(plain(a), plain(b)) }

// wantBegin is that Begin answers what the document says of it, and tells which error that is.
func wantBegin(t *testing.T, b birth) api.Errno {
	t.Helper()
	f, k, errno := b.begin()
	wantF, wantK, want := b.born()
	if !same(f, wantF) || k != wantK || errno != want {
		t.Fatalf("Begin of %#v: %#v, %#v, %d; want %#v, %#v, %d", b, f, k, errno, wantF, wantK, want)
	}
	if errno == api.OK && (!familyOK(f) || !tokenOK(k)) {
		t.Fatalf("Begin of %#v: %#v, %#v, which may not be", b, f, k)
	}
	return errno
}

// wantAlive is that of Alive.
func wantAlive(t *testing.T, f api.Family, now int) bool {
	t.Helper()
	got := family.Alive(f, now)
	if want := alive(f, now); got != want {
		t.Fatalf("Alive(%#v, %d): %v", f, now, got)
	}
	return got
}

// wantOver is that of Over.
func wantOver(t *testing.T, f api.Family, retain, now int) bool {
	t.Helper()
	got := family.Over(f, retain, now)
	if want := over(f, retain, now); got != want {
		t.Fatalf("Over(%#v, %d, %d): %v", f, retain, now, got)
	}
	return got
}

// wantJudge is that of Judge.
func wantJudge(t *testing.T, f api.Family, k api.Token, now int) int {
	t.Helper()
	got := family.Judge(f, k, now)
	if want := verdict(f, k, now); got != want {
		t.Fatalf("Judge(%#v, %#v, %d): %d, want %d", f, k, now, got, want)
	}
	return got
}

// wantRotate is that of Rotate.
func wantRotate(t *testing.T, f api.Family, k api.Token, next int, secret string, now int) api.Errno {
	t.Helper()
	g, spent, fresh, errno := family.Rotate(f, k, next, secret, now)
	wantG, wantSpent, wantFresh, want := turned(f, k, next, secret, now)
	if !same(g, wantG) || spent != wantSpent || fresh != wantFresh || errno != want {
		t.Fatalf("Rotate(%#v, %#v, %d, %q, %d): %#v, %#v, %#v, %d; want %#v, %#v, %#v, %d", f, k, next, secret, now, g, spent, fresh, errno, wantG, wantSpent, wantFresh, want)
	}
	if errno == api.OK && (!familyOK(g) || !tokenOK(spent) || !tokenOK(fresh)) {
		t.Fatalf("Rotate(%#v, %#v, %d, %q, %d): %#v, %#v, %#v, which may not be", f, k, next, secret, now, g, spent, fresh)
	}
	return errno
}

// wantFinish is that of Finish.
func wantFinish(t *testing.T, f api.Family, state, now int) api.Errno {
	t.Helper()
	g, errno := family.Finish(f, state, now)
	wantG, want := finished(f, state, now)
	if !same(g, wantG) || errno != want {
		t.Fatalf("Finish(%#v, %d, %d): %#v, %d; want %#v, %d", f, state, now, g, errno, wantG, want)
	}
	if errno == api.OK && !familyOK(g) {
		t.Fatalf("Finish(%#v, %d, %d): %#v, which may not be", f, state, now, g)
	}
	return errno
}

// wantTell is that of Tell: whether it told something.
func wantTell(t *testing.T, f api.Family, k api.Token, now int) bool {
	t.Helper()
	got := family.Tell(f, k, now)
	if want := told(f, k, now); !same(got, want) {
		t.Fatalf("Tell(%#v, %#v, %d): %#v, want %#v", f, k, now, got, want)
	}
	return got.Active
}

// wantAll is all of them, of a family and a token at a time.
func wantAll(t *testing.T, f api.Family, k api.Token, next int, secret string, state, retain, now int) {
	t.Helper()
	wantAlive(t, f, now)
	wantJudge(t, f, k, now)
	wantRotate(t, f, k, next, secret, now)
	wantFinish(t, f, state, now)
	wantTell(t, f, k, now)
	wantOver(t, f, retain, now)
}
