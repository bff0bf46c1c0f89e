package view

import (
	"iter"
	"strings"

	"latchkey/api"
)

const mostPairs = 4096 // that a tree tells at once

// Up goes over the pairs from a key on, up to another one, rising.
func (v *View) Up(from, to string) iter.Seq2[string, string] {
	return eachOf(v.upward(), span{strings.Clone(from), strings.Clone(to)})
}

// Down goes over them falling.
func (v *View) Down(from, to string) iter.Seq2[string, string] {
	return eachOf(v.downward(), span{strings.Clone(from), strings.Clone(to)})
}

// Count is how many keys there are.
func (v *View) Count() (int, api.Errno) {
	count := 0
	for l, errno := range v.upward().portions(span{}, mostPairs) {
		if errno != api.OK {
			return 0, errno
		}
		count += len(l)
	}
	return count, api.OK
}

// eachOf goes over the pairs of a span. They come in portions of one, so that each is asked for when a loop comes to it; an error has no pairs with it, and ends the loop so.
func eachOf(c course, s span) iter.Seq2[string, string] {
	return func(yield func(string, string) bool) {
		for l := range c.portions(s, 1) {
			for _, pair := range l {
				if !yield(pair.Key, pair.Value) {
					return
				}
			}
		}
	}
}
