package disk

import (
	"strings"

	"latchkey/api"
)

// sectors is how many a block has.
const sectors = api.BlockSize / api.SectorSize

// isSet: is a number a set of sectors?
func isSet(n int) bool {
	return n >= 0 && n < 1<<sectors
}

// torn is a block of which the sectors of a set are new.
func torn(last, written string, set int) string {
	var b strings.Builder
	b.Grow(api.BlockSize)
	for s := range sectors {
		from := last
		if set>>s&1 == 1 {
			from = written
		}
		b.WriteString(from[s*api.SectorSize : (s+1)*api.SectorSize])
	}
	return b.String()
}
