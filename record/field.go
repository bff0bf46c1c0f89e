package record

import (
	"latchkey/api"
	"latchkey/codec"
	"latchkey/scope"
)

// field is a row of a table: where one of a record's fields stands, and by which calls it is laid down and read.
type field interface {
	put(w *codec.Writer)
	take(r *codec.Reader)
}

// sized is a number by so many bytes, or a short text of at most so many.
type sized[T int | string] struct {
	place *T
	size  int
	lay   func(w *codec.Writer, size int, value T)
	read  func(r *codec.Reader, size int) T
}

func (f sized[T]) put(w *codec.Writer)  { f.lay(w, f.size, *f.place) }
func (f sized[T]) take(r *codec.Reader) { *f.place = f.read(r, f.size) }

// whole is a text that has so many bytes, so that its length stands nowhere.
type whole struct {
	place *string
	size  int
	lay   func(w *codec.Writer, s string)
	read  func(r *codec.Reader, n int) string
}

func (f whole) put(w *codec.Writer)  { f.lay(w, *f.place) }
func (f whole) take(r *codec.Reader) { *f.place = f.read(r, f.size) }

// rest is a text that goes on until so many bytes are left behind it.
type rest struct {
	place  *string
	behind int
	lay    func(w *codec.Writer, s string)
	left   func(r *codec.Reader) int
	read   func(r *codec.Reader, n int) string
}

func (f rest) put(w *codec.Writer)  { f.lay(w, *f.place) }
func (f rest) take(r *codec.Reader) { *f.place = f.read(r, f.left(r)-f.behind) }

// flags are truths as the bits of a number, from the lowest on.
type flags struct {
	places []*bool
	size   int
	lay    func(w *codec.Writer, size, n int)
	read   func(r *codec.Reader, size int) int
}

func (f flags) put(w *codec.Writer) {
	n := 0
	for bit, place := range f.places {
		if *place {
			n |= 1 << bit
		}
	}
	f.lay(w, f.size, n)
}

func (f flags) take(r *codec.Reader) {
	n := f.read(r, f.size)
	for bit, place := range f.places {
		*place = n>>bit&1 == 1
	}
}

// names are a scope, as a short text. What is wrong with one is not told here: a record whose list is no scope is never laid down, and a text that is none is read as no names, which are printed otherwise.
type names struct {
	place *[]string
	most  int
	lay   func(w *codec.Writer, most int, s string)
	read  func(r *codec.Reader, most int) string
}

func (f names) put(w *codec.Writer) {
	text, _ := scope.Print(*f.place)
	f.lay(w, f.most, text)
}

func (f names) take(r *codec.Reader) {
	*f.place, _ = scope.Parse(f.read(r, f.most))
}

// layout is how a record, or an entry of an index, stands as a pair.
type layout struct {
	key, value []field
}

func (l layout) pair() api.Pair {
	return api.Pair{Key: laid(l.key), Value: laid(l.value)}
}

func (l layout) take(p api.Pair) {
	takeAll(l.key, p.Key)
	takeAll(l.value, p.Value)
}

// laid is fields as bytes. All fields of what may be stand by theirs, so there is no error to be told.
func laid(fields []field) string {
	w := codec.NewWriter()
	for _, f := range fields {
		f.put(w)
	}
	s, _ := w.Done()
	return s
}

// takeAll reads fields; from the first one on that is wrong they are zero, and bytes may be left: both show when they are printed again.
func takeAll(fields []field, s string) {
	r := codec.NewReader(s)
	for _, f := range fields {
		f.take(r)
	}
}
