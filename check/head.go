package check

import (
	"latchkey/api"
	"latchkey/pager"
)

// head is what the walk needs of one.
type head struct {
	generation, root int
}

// headThatCounts is that of an image, if a head is right there.
func headThatCounts(blocks []string) (head, bool) {
	var last head
	for at, block := range blocks[:firstPage] {
		generation, root, size, _, errno := pager.ParseHead(block)
		right := errno == api.OK && size == len(blocks) && generation%firstPage == at
		if right && generation > last.generation {
			last = head{generation, root}
		}
	}
	return last, last.generation > 0
}
