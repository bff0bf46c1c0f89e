package pager

import (
	"latchkey/api"
	"latchkey/codec"
	"latchkey/disk"
)

const headSign = "LKEY"

// head says which pages count: those that its root reaches.
type head struct {
	generation, root, blocks int
	note                     string
}

// PrintHead is a head as a block: the generation, the root, how many blocks the disk has, the note.
func PrintHead(generation, root, blocks int, note string) (string, api.Errno) {
	h := head{generation, root, blocks, note}
	if !h.mayBe() {
		return "", api.ErrArg
	}
	w := codec.NewWriter()
	w.Raw(headSign)
	w.Num(8, generation)
	w.Num(4, root)
	w.Num(4, blocks)
	w.Raw(note)
	text, _ := w.Done() // whatever stands in a head that may be has its room there
	return filled(checked(text), api.BlockSize), api.OK
}

// ParseHead reads a head. Of its block just one sector is looked at, for a crash may tear the others off.
func ParseHead(s string) (int, int, int, string, api.Errno) {
	if len(s) != api.BlockSize {
		return 0, 0, 0, "", api.ErrPagerForm
	}
	h := guessHead(s)
	t, errno := PrintHead(h.generation, h.root, h.blocks, h.note)
	if errno != api.OK || t[:api.SectorSize] != s[:api.SectorSize] {
		return 0, 0, 0, "", api.ErrPagerForm
	}
	return h.generation, h.root, h.blocks, h.note, api.OK
}

// guessHead is the head whose sector a text would begin with, if it is one's.
func guessHead(s string) head {
	r := codec.NewReader(s)
	r.Raw(len(headSign))
	h := head{generation: r.Num(8), root: r.Num(4), blocks: r.Num(4)}
	h.note = r.Raw(api.NoteSize)
	return h
}

// mayBe: may there be such a head?
func (h head) mayBe() bool {
	sized := h.blocks >= api.MinBlocks && h.blocks <= api.MaxBlocks
	rooted := h.root == 0 || h.root >= firstPage && h.root < h.blocks
	return isGeneration(h.generation) && sized && rooted && isNote(h.note)
}

// block is where a head stands: heads take turns, so that the last one lasts while the next one is written.
func (h head) block() int {
	return h.generation % firstPage
}

// headThatCounts is that of a disk, if a head is right there.
func headThatCounts(d *disk.Disk) (head, bool) {
	var last head
	for block := range firstPage {
		if h, right := headOn(d, block); right && h.generation > last.generation {
			last = h
		}
	}
	return last, last.generation > 0
}

// headOn is the head on a block; is it right there?
func headOn(d *disk.Disk, block int) (head, bool) {
	s, errno := d.Read(block)
	if errno != api.OK {
		return head{}, false
	}
	generation, root, blocks, note, errno := ParseHead(s)
	h := head{generation, root, blocks, note}
	return h, errno == api.OK && blocks == d.Size() && h.block() == block
}

func isNote(s string) bool {
	return len(s) == api.NoteSize
}
