package trail

import (
	"latchkey/api"
	"latchkey/hash"
	"latchkey/record"
)

// digest is one as a value of its own: two are the same if they are so as a whole.
type digest [api.HashSize]byte

// digestOf is the one that a text of as many bytes says.
func digestOf(s string) digest {
	var d digest
	copy(d[:], s)
	return d
}

// text is a digest as it is told.
func (d digest) text() string { return string(d[:]) }

// behind is the digest behind an event that may be, this one being its forerunner's.
func (d digest) behind(e api.Event) digest {
	p, _ := record.PrintEvent(e)
	return digestOf(hash.Sum(d.text(), p.Value, p.Key))
}

// along is the digest behind the last one of a row of events.
func along(d digest, l []api.Event) digest {
	for _, e := range l {
		d = d.behind(e)
	}
	return d
}
