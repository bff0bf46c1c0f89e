package view

import (
	"iter"

	"latchkey/api"
)

// span is keys from one text on, and below another one, unless that is empty.
type span struct {
	from, to string
}

func (s span) has(key string) bool {
	return key >= s.from && (s.to == "" || key < s.to)
}

// above is what a span has above a key: from the least text that is above it on.
func (s span) above(key string) span {
	return span{key + "\x00", s.to}
}

// below is what a span has below a key.
func (s span) below(key string) span {
	return span{s.from, key}
}

// course is in which direction pairs are gone over: how the next ones of a span are found, and what of it is left behind a key.
type course struct {
	find func(s span, most int) ([]api.Pair, api.Errno)
	left func(s span, key string) span
}

func (v *View) upward() course { return course{v.first, span.above} }

func (v *View) downward() course { return course{v.last, span.below} }

// first are the first pairs of a span, rising.
func (v *View) first(s span, most int) ([]api.Pair, api.Errno) {
	if v.isClosed() {
		return nil, api.ErrViewClosed
	}
	return v.past.Scan(s.from, s.to, most)
}

// last are the last pairs of a span, falling.
func (v *View) last(s span, most int) ([]api.Pair, api.Errno) {
	if v.isClosed() {
		return nil, api.ErrViewClosed
	}
	return v.past.Back(s.to, s.from, most)
}

// next are the pairs of a span that come next, so many at the most, and what is left of it behind them. Pairs that are out of their order stand on pages that are no tree: who went on from them might never come to an end.
func (c course) next(s span, most int) ([]api.Pair, span, api.Errno) {
	l, errno := c.find(s, most)
	if errno != api.OK {
		return nil, s, errno
	}
	for _, pair := range l {
		if !s.has(pair.Key) {
			return nil, s, api.ErrTreeForm
		}
		s = c.left(s, pair.Key)
	}
	return l, s, api.OK
}

// portions gives the pairs of a span, so many at a time, each portion as it is when a loop comes to it. The last one has fewer, or none; an error has none.
func (c course) portions(s span, most int) iter.Seq2[[]api.Pair, api.Errno] {
	return func(yield func([]api.Pair, api.Errno) bool) {
		rest := s // for the next loop has all of it again
		for {
			l, left, errno := c.next(rest, most)
			if !yield(l, errno) || len(l) < most {
				return
			}
			rest = left
		}
	}
}
