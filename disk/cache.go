package disk

import (
	"cmp"
	"slices"
	"strings"

	"latchkey/api"
)

// cache is what is pending: one write of a block at most. They stand by rising blocks, for so a crash counts their places.
type cache struct {
	writes []api.Write
}

// place is where a block's write stands, or would stand.
func (c *cache) place(block int) (int, bool) {
	return slices.BinarySearchFunc(c.writes, block, func(w api.Write, block int) int {
		return cmp.Compare(w.Block, block)
	})
}

// find is what is pending of a block, if anything is.
func (c *cache) find(block int) (string, bool) {
	at, there := c.place(block)
	if !there {
		return "", false
	}
	return c.writes[at].Data, true
}

// put keeps a copy: what is handed in may be a small part of a great text.
func (c *cache) put(block int, data string) {
	w := api.Write{Block: block, Data: strings.Clone(data)}
	at, there := c.place(block)
	if there {
		c.writes[at] = w
		return
	}
	c.writes = slices.Insert(c.writes, at, w)
}

// list is all that is pending, for somebody who may do with it as he likes.
func (c *cache) list() []api.Write {
	l := make([]api.Write, len(c.writes))
	for n, w := range c.writes {
		l[n] = api.Write{Block: w.Block, Data: strings.Clone(w.Data)}
	}
	return l
}

// empty gives all that was pending away.
func (c *cache) empty() []api.Write {
	l := c.writes
	c.writes = nil
	return l
}

// sets is of each pending write the set of sectors that is to stay, if a list of them may be: none of what it does not name.
func (c *cache) sets(l []api.Keep) ([]int, bool) {
	sets := make([]int, len(c.writes))
	named := make([]bool, len(c.writes))
	for _, k := range l {
		if k.N < 0 || k.N >= len(named) || named[k.N] || !isSet(k.Sectors) {
			return nil, false
		}
		sets[k.N], named[k.N] = k.Sectors, true
	}
	return sets, true
}
