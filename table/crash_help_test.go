package table_test

import (
	"fmt"
	"math/rand"
	"testing"

	"latchkey/api"
	"latchkey/disk"
)

// crashes does something with what a crash makes of a dead disk: of each block that is pending, alone and with all others, each set of sectors stays (so many of the 256 sets as are asked for, evenly among them); and what is drawn for all blocks.
func crashes(t *testing.T, d *disk.Disk, sets int, seed int64, do func(what string, d *disk.Disk)) {
	t.Helper()
	pending := d.Pending()
	crashed := func(what string, keep []api.Keep) {
		other := loaded(t, d.Blocks())
		for _, w := range pending {
			wantErrno(t, "Write", other.Write(w.Block, w.Data), api.OK)
		}
		wantErrno(t, "Crash", other.Crash(keep), api.OK)
		do(fmt.Sprintf("behind the act %d, %s: %v", d.Acts()+1, what, keep), other)
	}
	crashed("nothing stays", nil)
	for n := range pending {
		for set := range sets {
			sectors := (set*255 + sets - 2) / max(sets-1, 1) // 0 and 255 among them
			crashed("alone", []api.Keep{{N: n, Sectors: sectors}})
			var all []api.Keep
			for m := range pending {
				all = append(all, api.Keep{N: m, Sectors: 255})
			}
			all[n].Sectors = sectors
			crashed("with all others", all)
		}
	}
	r := rand.New(rand.NewSource(seed))
	for range min(8, 4*len(pending)) {
		var drawn []api.Keep
		for m := range pending {
			drawn = append(drawn, api.Keep{N: m, Sectors: r.Intn(256)})
		}
		crashed("drawn", drawn)
	}
}
