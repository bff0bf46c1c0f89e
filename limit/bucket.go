package limit

import "latchkey/api"

// bucket is what is kept of a name: its level at a time.
type bucket struct {
	name  string
	level float32
	time  int
}

// gone is how many seconds a time is behind the one that is kept; a time ahead of that one takes nothing back.
func (b bucket) gone(now int) int {
	return max(now-b.time, 0)
}

// bucket is what a name has. One that is not kept is full from the first time on, and so at any time.
func (l *Limiter) bucket(name string) bucket {
	for _, b := range l.kept {
		if b.name == name {
			return b
		}
	}
	return bucket{name, l.burst, 0}
}

// level is what a name has so many seconds behind the time that is kept. The product is turned into a float32 by itself, for else a machine might put it together with the sum and round but once.
func (l *Limiter) level(b bucket, seconds int) float32 {
	filled := float32(float32(seconds) * l.rate)
	return min(l.burst, float32(b.level+filled))
}

// wait is how many more seconds it takes up to a level. More seconds never make a lesser level, however each step is rounded, so that the row of them may be halved; the last one stands for never, too.
func (l *Limiter) wait(b bucket, gone int, cost float32) int {
	first, last := 1, api.MaxTime
	for first < last {
		middle := (first + last) / 2
		if l.level(b, gone+middle) >= cost {
			last = middle
		} else {
			first = middle + 1
		}
	}
	return first
}

// keep lays a name ahead of all others: the one that stands last then was let in longest ago, and has no place if there are too many.
func (l *Limiter) keep(b bucket) {
	kept := []bucket{b}
	for _, other := range l.kept {
		if other.name != b.name && len(kept) < api.MaxBuckets {
			kept = append(kept, other)
		}
	}
	l.kept = kept
}
