package pager

import (
	"slices"

	"latchkey/api"
	"latchkey/codec"
)

const (
	pageSign      = "LP"
	maxKind       = 255
	firstPage     = 2 // the blocks ahead of it are for heads
	linkSize      = 4
	maxGeneration = 1 << 62
)

// PrintPage is a page as a block.
func PrintPage(p api.Page) (string, api.Errno) {
	if !mayBe(p) {
		return "", api.ErrPagerPage
	}
	w := codec.NewWriter()
	w.Raw(pageSign)
	w.Num(1, p.Kind)
	w.Num(1, len(p.Links))
	w.Num(4, p.Number)
	w.Num(8, p.Birth)
	w.Num(2, len(p.Body))
	w.Num(2, 0)
	codec.Numbers(w, linkSize, p.Links...)
	w.Raw(p.Body)
	text, _ := w.Done() // whatever stands in a page that may be has its room there
	return checked(filled(text, api.BlockSize-checkSize)), api.OK
}

// ParsePage reads a page. What a text seems to say counts only if just this text is printed of it.
func ParsePage(s string) (api.Page, api.Errno) {
	if len(s) != api.BlockSize {
		return api.Page{}, api.ErrPagerPage
	}
	p := guessPage(s)
	if t, errno := PrintPage(p); errno != api.OK || t != s {
		return api.Page{}, api.ErrPagerPage
	}
	return p, api.OK
}

// guessPage is the page whose block a text would be, if it is one.
func guessPage(s string) api.Page {
	r := codec.NewReader(s)
	r.Raw(len(pageSign))
	p := api.Page{Kind: r.Num(1)}
	links := r.Num(1)
	p.Number, p.Birth = r.Num(4), r.Num(8)
	size := r.Num(2)
	r.Num(2)
	for range links {
		p.Links = append(p.Links, r.Num(linkSize))
	}
	p.Body = r.Raw(size)
	return p
}

// mayBe: may there be such a page?
func mayBe(p api.Page) bool {
	return isGeneration(p.Birth) && mayBeFresh(p)
}

// mayBeFresh: may there be such a page, whatever its Birth?
func mayBeFresh(p api.Page) bool {
	fits := linkSize*len(p.Links)+len(p.Body) <= api.PageRoom
	return fits && p.Kind >= 1 && p.Kind <= maxKind && isPage(p.Number) && !slices.ContainsFunc(p.Links, isNoPage)
}

// isPage: is it the number of a page on the greatest disk?
func isPage(n int) bool {
	return n >= firstPage && n < api.MaxBlocks
}

func isNoPage(n int) bool {
	return !isPage(n)
}

func isGeneration(n int) bool {
	return n >= 1 && n <= maxGeneration
}
