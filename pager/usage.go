package pager

import "slices"

// usage is of each block who needs it, a bit for each: the last commit, and the pins by their numbers. A page that nobody needs is free.
type usage []uint8

const (
	reached uint8 = 1 // the last commit's bit
	anybody       = ^uint8(0)
)

// pinned is a pin's bit.
func pinned(pin int) uint8 {
	return reached << pin
}

// has: is there such a block, and does somebody need it who has this bit?
func (u usage) has(n int, bit uint8) bool {
	return n >= 0 && n < len(u) && u[n]&bit != 0
}

// count is how many pages are such.
func (u usage) count(such func(needs uint8) bool) int {
	count := 0
	for n := range len(u) {
		if n >= firstPage && such(u[n]) {
			count++
		}
	}
	return count
}

// least are the least pages that are such, rising: most of them at the most.
func (u usage) least(most int, such func(needs uint8) bool) []int {
	var l []int
	for n := range len(u) {
		if len(l) == most {
			break
		}
		if n >= firstPage && such(u[n]) {
			l = append(l, n)
		}
	}
	return l
}

// keep lets a pin need what the last commit does.
func (u usage) keep(pin int) {
	for n := range len(u) {
		if u.has(n, reached) {
			u[n] |= pinned(pin)
		}
	}
}

// drop lets a pin need nothing.
func (u usage) drop(pin int) {
	for n := range len(u) {
		u[n] &^= pinned(pin)
	}
}

// turned is the usage behind a commit that adds pages, and needs others no more.
func (u usage) turned(fresh, gone []int) usage {
	next := slices.Clone(u)
	for _, n := range gone {
		next[n] &^= reached
	}
	for _, n := range fresh {
		next[n] |= reached
	}
	return next
}

func isFree(needs uint8) bool {
	return needs == 0
}

func isReached(needs uint8) bool {
	return needs&reached != 0
}

func isHeld(needs uint8) bool {
	return needs != 0 && !isReached(needs)
}
