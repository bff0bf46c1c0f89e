package clock

import "latchkey/api"

// Add is a time so much later.
func Add(t, d int) int {
	return nearest(nearest(t) + step(d))
}

// Left is how long it is up to an end.
func Left(now, end int) int {
	return max(nearest(end)-nearest(now), 0)
}

// Within: is a time within so much from another one on?
func Within(now, from, length int) bool {
	gone := nearest(now) - nearest(from)
	return gone >= 0 && gone < length
}

// First is the earliest of some times.
func First(l ...int) int {
	first := api.MaxTime
	for _, t := range l {
		first = min(first, nearest(t))
	}
	return first
}

// nearest makes a time of any number, so that no difference of two of them can wrap round.
func nearest(n int) int {
	return min(max(n, 0), api.MaxTime)
}

// step cuts a number of seconds down to the whole row of times: more leads from no time to another one, and a sum with it could wrap round.
func step(d int) int {
	return min(max(d, -api.MaxTime), api.MaxTime)
}
