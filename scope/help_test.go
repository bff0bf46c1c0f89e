package scope_test

import (
	"regexp"
	"slices"
	"strings"
	"testing"
	"unsafe"

	"latchkey/api"
	"latchkey/scope"
)

// f is the names that a text has between its blanks.
func f(s string) []string { return strings.Fields(s) }

// many is a text so many times.
func many(n int, s string) string { return strings.Repeat(s, n) }

// sized is four names that rise, whose text has so many bytes, from 49 to 64.
func sized(n int) []string {
	return []string{many(15, "a"), many(15, "b"), many(15, "c"), many(n-48, "d")}
}

// The chapter's words, as expressions over a whole text.
var (
	nameForm   = regexp.MustCompile(`\A[a-z0-9\-_.]{1,16}\z`)
	spokenForm = regexp.MustCompile(`\A([a-z0-9\-_.]{1,16}( [a-z0-9\-_.]{1,16})*)?\z`)
)

// printed is S3.
func printed(l []string) (string, api.Errno) {
	for n, name := range l {
		if !nameForm.MatchString(name) || n > 0 && strings.Compare(l[n-1], name) >= 0 {
			return "", api.ErrScopeName
		}
	}
	if s := strings.Join(l, " "); len(l) <= 8 && len(s) <= 60 {
		return s, api.OK
	}
	return "", api.ErrScopeMany
}

// isScope is S1.
func isScope(l []string) bool {
	_, errno := printed(l)
	return errno == api.OK
}

// bounded is names, each once and rising, if they are a scope.
func bounded(names []string) ([]string, api.Errno) {
	names = slices.Clone(names)
	slices.Sort(names)
	names = slices.Compact(names)
	if !isScope(names) {
		return nil, api.ErrScopeMany
	}
	return names, api.OK
}

// parsed is S2.
func parsed(s string) ([]string, api.Errno) {
	if !spokenForm.MatchString(s) {
		return nil, api.ErrScopeName
	}
	return bounded(f(s))
}

// within is S4.
func within(a, b []string) bool {
	return isScope(a) && isScope(b) && len(minus(a, b)) == 0
}

// joined is S5 of Join.
func joined(a, b []string) ([]string, api.Errno) {
	if !isScope(a) || !isScope(b) {
		return nil, api.ErrScopeName
	}
	return bounded(slices.Concat(a, b))
}

// met is S5 of Meet.
func met(a, b []string) []string { return picked(a, b, true) }

// minus is S5 of Minus.
func minus(a, b []string) []string { return picked(a, b, false) }

// picked is the names of a that b has, or those that it has not: in the order of a, which rises.
func picked(a, b []string, has bool) []string {
	var l []string
	for _, name := range a {
		if isScope(a) && isScope(b) && slices.Contains(b, name) == has {
			l = append(l, name)
		}
	}
	return l
}

// wantList is Right and Print of a list, held against the chapter's words, and against an error that the test names.
func wantList(t *testing.T, l []string, errno api.Errno) {
	t.Helper()
	want, wantErrno := printed(l)
	if wantErrno != errno {
		t.Fatalf("the test is wrong: %q is %d, not %d", l, wantErrno, errno)
	}
	if s, e := scope.Print(l); s != want || e != errno {
		t.Errorf("Print(%q) = %q, %d, want %q, %d", l, s, e, want, errno)
	}
	if got := scope.Right(l); got != (errno == api.OK) {
		t.Errorf("Right(%q) = %v", l, got)
	}
}

// wantParsed is that Parse tells these names.
func wantParsed(t *testing.T, s string, want ...string) {
	t.Helper()
	if l, e := scope.Parse(s); !slices.Equal(l, want) || e != api.OK {
		t.Errorf("Parse(%q) = %q, %d, want %q", s, l, e, want)
	}
}

// wantRefused is that Parse tells this error, and nothing beside it.
func wantRefused(t *testing.T, s string, errno api.Errno) {
	t.Helper()
	if l, e := scope.Parse(s); len(l) != 0 || e != errno {
		t.Errorf("Parse(%q) = %q, %d, want %d", s, l, e, errno)
	}
}

// wantTwo is S4 and S5 of two lists, held against the chapter's words.
func wantTwo(t *testing.T, a, b []string) {
	t.Helper()
	if got, want := scope.Within(a, b), within(a, b); got != want {
		t.Errorf("Within(%q, %q) = %v", a, b, got)
	}
	want, errno := joined(a, b)
	if l, e := scope.Join(a, b); !slices.Equal(l, want) || e != errno {
		t.Errorf("Join(%q, %q) = %q, %d, want %q, %d", a, b, l, e, want, errno)
	}
	if got, want := scope.Meet(a, b), met(a, b); !slices.Equal(got, want) {
		t.Errorf("Meet(%q, %q) = %q, want %q", a, b, got, want)
	}
	if got, want := scope.Minus(a, b), minus(a, b); !slices.Equal(got, want) {
		t.Errorf("Minus(%q, %q) = %q, want %q", a, b, got, want)
	}
}

// memory is a piece of it: first and last byte.
type memory [2]uintptr

func textMemory(texts ...string) []memory {
	var all []memory
	for _, s := range texts {
		if p := uintptr(unsafe.Pointer(unsafe.StringData(s))); len(s) > 0 {
			all = append(all, memory{p, p + uintptr(len(s)) - 1})
		}
	}
	return all
}

// listMemory is where a list stands, with its spare room, and where its names do.
func listMemory(l []string) []memory {
	all := textMemory(l...)
	if cap(l) > 0 {
		p := uintptr(unsafe.Pointer(unsafe.SliceData(l)))
		all = append(all, memory{p, p + uintptr(cap(l))*unsafe.Sizeof("") - 1})
	}
	return all
}

// share says whether some of these pieces lie over some of those.
func share(these, those []memory) bool {
	for _, a := range these {
		for _, b := range those {
			if a[0] <= b[1] && b[0] <= a[1] {
				return true
			}
		}
	}
	return false
}

// overlap says whether some of these pieces lie over one another.
func overlap(all []memory) bool {
	for n := range all {
		if share(all[n:n+1], all[n+1:]) {
			return true
		}
	}
	return false
}
