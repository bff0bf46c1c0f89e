package codec

import (
	"errors"

	"latchkey/api"
)

// Reader reads what a Writer has laid down.
type Reader struct {
	left  []byte // a copy, so that what is told shares nothing with what was handed in
	wrong error  // the first fault
}

// NewReader is one at the beginning of a text.
func NewReader(s string) *Reader { return &Reader{left: []byte(s)} }

// Num reads a number by so many bytes.
func (r *Reader) Num(size int) int {
	switch {
	case r.wrong != nil:
	case !sized(size):
		r.wrong = fault{api.ErrArg}
	case len(r.left) < size:
		r.wrong = fault{api.ErrCodecShort}
	case size == maxSize && r.left[0] >= 128:
		r.wrong = fault{api.ErrCodecRange}
	default:
		return number(r.take(size))
	}
	return 0
}

// Text reads a text of at most so many bytes.
func (r *Reader) Text(most int) string {
	size := lengthSize(most)
	switch {
	case r.wrong != nil:
	case !bounded(most):
		r.wrong = fault{api.ErrArg}
	case len(r.left) < size:
		r.wrong = fault{api.ErrCodecShort}
	case number(r.left[:size]) > most:
		r.wrong = fault{api.ErrCodecLong}
	case number(r.left[:size]) > len(r.left)-size:
		r.wrong = fault{api.ErrCodecShort}
	default:
		length := number(r.take(size))
		return string(r.take(length))
	}
	return ""
}

// Raw reads so many bytes.
func (r *Reader) Raw(n int) string {
	switch {
	case r.wrong != nil:
	case n < 0:
		r.wrong = fault{api.ErrArg}
	case len(r.left) < n:
		r.wrong = fault{api.ErrCodecShort}
	default:
		return string(r.take(n))
	}
	return ""
}

// Left is how many bytes are left.
func (r *Reader) Left() int { return len(r.left) }

// Done tells what was wrong first, or that bytes are left.
func (r *Reader) Done() api.Errno {
	var f fault
	switch {
	case errors.As(r.wrong, &f):
		return f.number
	case len(r.left) > 0:
		return api.ErrCodecMore
	}
	return api.OK
}

// take takes so many bytes, which are left, off the front.
func (r *Reader) take(n int) []byte {
	taken := r.left[:n]
	r.left = r.left[n:]
	return taken
}

// number is what stands by these bytes, the highest first.
func number(bytes []byte) int {
	n := 0
	for _, b := range bytes {
		n = n<<8 | int(b)
	}
	return n
}
