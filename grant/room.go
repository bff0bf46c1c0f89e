package grant

import "latchkey/api"

const (
	mostRoom = 1 << 20 // families, and generations, that are reckoned with

	// The most bytes that pairs can have (chapter 14's R8): what there is whatever families there are; of a family, its two entries and its code; of a token and its entry.
	sizeOfRest   = api.MaxClients*177 + api.MaxCodes*185 + api.MaxKeys*43 + api.MaxEvents*43 + 83
	sizeOfFamily = 163 + 17 + 28 + 185
	sizeOfToken  = 101 + 23

	heads = 2
	trees = 2 // a commit's new one stands beside the old one
)

// Room is how many blocks are enough for so many families of so many generations.
func Room(families, generations int) int {
	f, g := min(max(families, 0), mostRoom), min(max(generations, 0), mostRoom)
	size := sizeOfRest + sizeOfFamily*f + sizeOfToken*f*g
	leaves := size/api.NodePoor + 1
	return heads + trees*(leaves+leaves/3+2) // an inner node has four kids at least, but for the root
}
