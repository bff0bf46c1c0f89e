package record_test

import (
	"math"
	"math/big"
	"math/rand"
	"reflect"
	"regexp"
	"slices"
	"strings"
	"testing"

	"latchkey/api"
	"latchkey/record"
)

const (
	lastTime = 1 << 40
	lastID   = 1 << 62
	lastGen  = 1 << 30
)

// many is a text so many times.
func many(n int, s string) string { return strings.Repeat(s, n) }

// by is a number by so many bytes, the highest first.
func by(size, n int) string {
	return string(big.NewInt(int64(n)).FillBytes(make([]byte, size)))
}

// short is a short text.
func short(s string) string { return by(1, len(s)) + s }

var nameForm = regexp.MustCompile(`\A[a-z0-9\-_.]{1,16}\z`)

func isName(s string) bool { return nameForm.MatchString(s) }

func between(n, least, most int) bool { return least <= n && n <= most }

func isTime(n int) bool { return between(n, 0, lastTime) }

func isID(n int) bool { return between(n, 1, lastID) }

// isScope is the words of chapter 6.
func isScope(l []string) bool {
	for n, name := range l {
		if !isName(name) || n > 0 && strings.Compare(l[n-1], name) >= 0 {
			return false
		}
	}
	return len(l) <= 8 && len(strings.Join(l, " ")) <= 60
}

// digest is one whose bytes are of all kinds.
func digest(seed int64) string {
	b := make([]byte, 32)
	rand.New(rand.NewSource(seed)).Read(b)
	return string(b)
}

// eight is a scope of eight names whose text has 60 bytes.
func eight() []string {
	return []string{"a", "b", "c", "d", "e", many(16, "f"), many(16, "g"), many(16, "h")}
}

// plain is a record whose list without elements is nil, for it may be nil or not.
func plain[R any](record R) R {
	v := reflect.ValueOf(&record).Elem()
	if f := v.FieldByName("Scope"); f.IsValid() && f.Len() == 0 {
		f.SetZero()
	}
	return record
}

// same says whether two records have the same fields.
func same[R any](a, b R) bool { return reflect.DeepEqual(plain(a), plain(b)) }

// isZero says whether nothing stands in a record.
func isZero[R any](a R) bool { return reflect.ValueOf(plain(a)).IsZero() }

// kind is one kind of records: its two calls, and its row of the chapter's table, as the test reads it.
type kind[R any] struct {
	what  string
	print func(R) (api.Pair, api.Errno)
	parse func(api.Pair) (R, api.Errno)
	model func(R) (api.Pair, bool)
}

func clients() kind[api.Client] {
	return kind[api.Client]{"client", record.PrintClient, record.ParseClient, clientPair}
}

func families() kind[api.Family] {
	return kind[api.Family]{"family", record.PrintFamily, record.ParseFamily, familyPair}
}

func tokens() kind[api.Token] {
	return kind[api.Token]{"token", record.PrintToken, record.ParseToken, tokenPair}
}

func codes() kind[api.Code] {
	return kind[api.Code]{"code", record.PrintCode, record.ParseCode, codePair}
}

func keys() kind[api.Key] {
	return kind[api.Key]{"key", record.PrintKey, record.ParseKey, keyPair}
}

func events() kind[api.Event] {
	return kind[api.Event]{"event", record.PrintEvent, record.ParseEvent, eventPair}
}

func chains() kind[api.Chain] {
	return kind[api.Chain]{"chain", record.PrintChain, record.ParseChain, chainPair}
}

// wantPair is that a record may be, is printed so, and is read again.
func (k kind[R]) wantPair(t *testing.T, what string, r R, want api.Pair) {
	t.Helper()
	if p, e := k.print(r); p != want || e != api.OK {
		t.Errorf("%s, %s: %q, %d, want %q", k.what, what, p, e, want)
	}
	if got, e := k.parse(want); !same(got, r) || e != api.OK {
		t.Errorf("%s, %s, read: %#v, %d, want %#v", k.what, what, got, e, r)
	}
}

// wantField is that a record may not be.
func (k kind[R]) wantField(t *testing.T, what string, r R) {
	t.Helper()
	if p, e := k.print(r); p != (api.Pair{}) || e != api.ErrRecordField {
		t.Errorf("%s, %s: %#v: %q, %d", k.what, what, r, p, e)
	}
}

// wantForm is that a pair is that of no record.
func (k kind[R]) wantForm(t *testing.T, what string, p api.Pair) {
	t.Helper()
	if r, e := k.parse(p); !isZero(r) || e != api.ErrRecordForm {
		t.Errorf("%s, %s: %q: %#v, %d", k.what, what, p, r, e)
	}
}

// wantModel is that a record is what the chapter's table says of it, whatever that is: R1, and R2 of its pair.
func (k kind[R]) wantModel(t *testing.T, what string, r R) {
	t.Helper()
	if p, right := k.model(r); right {
		k.wantPair(t, what, r, p)
	} else {
		k.wantField(t, what, r)
	}
}

// wantWhole is that a pair is read whole and exact, or refused: R2. It says which.
func (k kind[R]) wantWhole(t *testing.T, what string, p api.Pair) bool {
	t.Helper()
	r, e := k.parse(p)
	if e != api.OK {
		if !isZero(r) || e != api.ErrRecordForm {
			t.Errorf("%s, %s: %q: %#v, %d", k.what, what, p, r, e)
		}
		return false
	}
	if again, right := k.model(r); !right || again != p {
		t.Errorf("%s, %s: %q is read as %#v, which is %q, %#v", k.what, what, p, r, again, right)
	}
	k.wantPair(t, what, r, p)
	return true
}

// change is what is done to a record that may be.
type change[R any] struct {
	what string
	do   func(r *R)
}

// wantRefused is that with each of these changes, alone, the record may not be.
func (k kind[R]) wantRefused(t *testing.T, r R, changes ...change[R]) {
	t.Helper()
	k.wantModel(t, "as it was", r)
	for _, c := range changes {
		turned := r
		c.do(&turned)
		k.wantField(t, c.what, turned)
	}
}

// wantTaken is that with each of these changes, alone, it may be still.
func (k kind[R]) wantTaken(t *testing.T, r R, changes ...change[R]) {
	t.Helper()
	for _, c := range changes {
		turned := r
		c.do(&turned)
		if _, e := k.print(turned); e != api.OK {
			t.Errorf("%s, %s: %d", k.what, c.what, e)
		}
		k.wantModel(t, c.what, turned)
	}
}

// someNumbers are those at which something begins or ends.
func someNumbers() []int {
	return []int{
		math.MinInt, math.MinInt + 1, -lastID, -lastTime, -1, 0, 1, 2, 3, 4, 5, 6, 8, 9, 10, 31, 32, 33, 34, 35, 99, 100, 101, 255, 256,
		lastGen - 1, lastGen, lastGen + 1, 1<<32 - 1, 1 << 32, lastTime - 1, lastTime, lastTime + 1, 1<<48 - 1, 1 << 48,
		lastID - 33, lastID - 32, lastID - 1, lastID, lastID + 1, lastID + 2, math.MaxInt,
	}
}

// someTexts are names, digests, secrets, and texts that are nearly one.
func someTexts() []string {
	return []string{
		"", "a", "app", "-._09az", many(16, "z"), many(17, "z"), "App", "a b", "a\x00", "é", "\xff", " ",
		many(23, "s"), many(24, "s"), many(25, "s"), many(31, "h"), many(32, "h"), many(33, "h"), many(24, "\x00"), many(32, "\xff"), digest(1),
		many(255, "x"), many(256, "x"), many(256+32, "x"), many(1000, "x"),
	}
}

// someScopes are scopes, and lists that are nearly one.
func someScopes() [][]string {
	return [][]string{
		nil, {}, {"read"}, {"a", "b"}, {many(16, "n")}, {"-", ".", "0", "_", "a"}, {"a", "b", "c", "d", "e", "f", "g", "h"}, eight(), fullScope(60),
		{"b", "a"}, {"a", "a"}, {""}, {"a", ""}, {"A"}, {"a b"}, {many(17, "n")}, {"a", "b", "c", "d", "e", "f", "g", "h", "i"}, fullScope(61),
	}
}

// fullScope is four names that rise, whose text has so many bytes, from 52 to 67.
func fullScope(n int) []string {
	return []string{many(16, "a"), many(16, "b"), many(16, "c"), many(n-51, "d")}
}

// fieldPool is what may be tried in a field of that type.
func fieldPool(f reflect.Type) []reflect.Value {
	var pool []reflect.Value
	switch f.Kind() {
	case reflect.Int:
		pool = values(someNumbers())
	case reflect.String:
		pool = values(someTexts())
	case reflect.Bool:
		pool = values([]bool{false, true})
	case reflect.Slice:
		pool = values(someScopes())
	}
	return pool
}

func values[T any](l []T) []reflect.Value {
	var all []reflect.Value
	for _, x := range l {
		all = append(all, reflect.ValueOf(x))
	}
	return all
}

// eachTwoFields does something with a record, in whose each two fields (or one, or none) stands each two of what may be tried.
func eachTwoFields[R any](base R, do func(r R)) {
	fields := reflect.TypeFor[R]().NumField()
	for one := range fields {
		for two := one; two < fields; two++ {
			turned := base
			v := reflect.ValueOf(&turned).Elem()
			for _, a := range fieldPool(v.Field(one).Type()) {
				for _, b := range fieldPool(v.Field(two).Type()) {
					v.Field(two).Set(b)
					v.Field(one).Set(a) // of one field alone: each a as often as there are b
					do(turned)
				}
			}
		}
	}
}

// drawn is a record, in whose every field something stands that is drawn from what may be tried.
func drawn[R any](r *rand.Rand) R {
	var all R
	v := reflect.ValueOf(&all).Elem()
	for n := range v.NumField() {
		pool := fieldPool(v.Field(n).Type())
		v.Field(n).Set(pool[r.Intn(len(pool))])
	}
	return all
}

// spoilt is a text with a byte turned, or one more, or one less, or some of it twice.
func spoilt(r *rand.Rand, s string) string {
	at := r.Intn(len(s) + 1)
	next := min(at+1, len(s))
	c := string([]byte{byte(r.Intn(256))})
	switch r.Intn(6) {
	case 0:
		return s[:at] + s[next:]
	case 1:
		return s[:at] + c + s[at:]
	case 2:
		return s[:next] + s[at:]
	case 3:
		return s[:at] + "\x00" + s[next:]
	}
	return s[:at] + c + s[next:]
}

// spoiltPair is a pair of which the key, or the value, is spoilt.
func spoiltPair(r *rand.Rand, p api.Pair) api.Pair {
	if r.Intn(3) == 0 {
		p.Key = spoilt(r, p.Key)
	} else {
		p.Value = spoilt(r, p.Value)
	}
	return p
}

// eachTurned does something with a pair of which each byte, alone, is each other one.
func eachTurned(p api.Pair, do func(api.Pair)) {
	all := p.Key + p.Value
	for at := range len(all) {
		turned := []byte(all)
		for c := range 256 {
			if turned[at] = byte(c); string(turned) != all {
				do(api.Pair{Key: string(turned[:len(p.Key)]), Value: string(turned[len(p.Key):])})
			}
		}
	}
}

// cuts are a pair with one byte less at an end of its key or value, or one more there, or one moved from the one to the other.
func cuts(p api.Pair) []api.Pair {
	l := []api.Pair{
		{Key: p.Key[1:], Value: p.Value}, {Key: p.Key[:len(p.Key)-1], Value: p.Value}, {Key: "", Value: p.Value},
		{Key: "\x00" + p.Key, Value: p.Value}, {Key: p.Key[:1] + p.Key, Value: p.Value}, {Key: p.Key + "\x00", Value: p.Value}, {Key: p.Key + "a\x00", Value: p.Value},
		{Key: p.Key, Value: "\x00" + p.Value}, {Key: p.Key, Value: p.Value + "\x00"}, {Key: p.Key, Value: p.Value + "a"}, {Key: p.Key, Value: p.Value + p.Value + "\x00"},
	}
	if p.Value != "" {
		l = append(l, api.Pair{Key: p.Key, Value: p.Value[1:]}, api.Pair{Key: p.Key, Value: p.Value[:len(p.Value)-1]}, api.Pair{Key: p.Key},
			api.Pair{Key: p.Key + p.Value[:1], Value: p.Value[1:]}, api.Pair{Key: p.Key[:len(p.Key)-1], Value: p.Key[len(p.Key)-1:] + p.Value})
	}
	return slices.DeleteFunc(l, func(q api.Pair) bool { return q == p })
}
