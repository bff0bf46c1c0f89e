package record

import (
	"latchkey/api"
	"latchkey/codec"
)

// note is what a commit notes.
type note struct {
	next, now int
}

// PrintNote is the next ID and the time as a commit's note.
func PrintNote(next, now int) (string, api.Errno) {
	if next < 1 || next > maxNextID || !isTime(now) {
		return "", api.ErrRecordField
	}
	return laid(layNote(&note{next, now})), api.OK
}

// ParseNote reads it.
func ParseNote(s string) (int, int, api.Errno) {
	var n note
	takeAll(layNote(&n), s)
	if again, errno := PrintNote(n.next, n.now); errno != api.OK || again != s {
		return 0, 0, api.ErrRecordForm
	}
	return n.next, n.now, api.OK
}

func layNote(n *note) []field {
	noughts := "\x00\x00"
	return []field{
		sized[int]{&n.next, idSize, (*codec.Writer).Num, (*codec.Reader).Num},
		sized[int]{&n.now, timeSize, (*codec.Writer).Num, (*codec.Reader).Num},
		whole{&noughts, len(noughts), (*codec.Writer).Raw, (*codec.Reader).Raw},
	}
}
