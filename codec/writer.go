package codec

import (
	"errors"

	"latchkey/api"
)

// Writer lays down numbers and texts as bytes.
type Writer struct {
	laid  []byte
	wrong error // the first fault
}

// NewWriter is one that has laid down nothing.
func NewWriter() *Writer { return &Writer{} }

// Num lays down a number by so many bytes.
func (w *Writer) Num(size, n int) {
	switch {
	case w.wrong != nil:
	case !sized(size):
		w.wrong = fault{api.ErrArg}
	case !stands(size, n):
		w.wrong = fault{api.ErrCodecRange}
	default:
		w.lay(size, n)
	}
}

// Text lays down a text of at most so many bytes, with its length ahead.
func (w *Writer) Text(most int, s string) {
	switch {
	case w.wrong != nil:
	case !bounded(most):
		w.wrong = fault{api.ErrArg}
	case len(s) > most:
		w.wrong = fault{api.ErrCodecLong}
	default:
		w.lay(lengthSize(most), len(s))
		w.Raw(s)
	}
}

// Raw lays down bytes as they are.
func (w *Writer) Raw(s string) {
	if w.wrong == nil {
		w.laid = append(w.laid, s...)
	}
}

// Done is all that was laid down, or what was wrong first.
func (w *Writer) Done() (string, api.Errno) {
	var f fault
	if errors.As(w.wrong, &f) {
		return "", f.number
	}
	return string(w.laid), api.OK
}

// Numbers lays down numbers of any whole kind, each by so many bytes.
func Numbers[T ~int | ~int32 | ~int64 | ~uint8 | ~uint16 | ~uint32](w *Writer, size int, l ...T) {
	for _, n := range l {
		w.Num(size, int(n))
	}
}

// stands says whether a number stands by so many bytes; by eight every one does that is not below 0, for the highest bit is its sign.
func stands(size, n int) bool {
	return n >= 0 && (size == maxSize || n>>(8*size) == 0)
}

// lay puts down a number that stands by so many bytes.
func (w *Writer) lay(size, n int) {
	for at := size - 1; at >= 0; at-- {
		w.laid = append(w.laid, byte(n>>(8*at)))
	}
}
