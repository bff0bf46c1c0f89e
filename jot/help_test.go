package jot_test

import (
	"fmt"
	"math/rand"
	"slices"
	"sort"
	"strings"
	"unsafe"

	"latchkey/api"
	"latchkey/jot"
)

var (
	null = api.Jot{}
	no   = api.Jot{Kind: api.JotFalse}
	yes  = api.Jot{Kind: api.JotTrue}
)

func num(n int) api.Jot { return api.Jot{Kind: api.JotNumber, Number: n} }

func text(s string) api.Jot { return api.Jot{Kind: api.JotText, Text: s} }

func list(items ...api.Jot) api.Jot { return api.Jot{Kind: api.JotList, Items: items} }

func object(names []string, items ...api.Jot) api.Jot {
	return api.Jot{Kind: api.JotObject, Names: names, Items: items}
}

// nested is a value within so many lists.
func nested(n int, v api.Jot) api.Jot {
	for range n {
		v = list(v)
	}
	return v
}

// row is one of the table of UTF-8: the bounds of each of its bytes.
type row [][2]byte

var rows = []row{
	{{0x00, 0x7f}},
	{{0xc2, 0xdf}, {0x80, 0xbf}},
	{{0xe0, 0xe0}, {0xa0, 0xbf}, {0x80, 0xbf}},
	{{0xe1, 0xec}, {0x80, 0xbf}, {0x80, 0xbf}},
	{{0xee, 0xef}, {0x80, 0xbf}, {0x80, 0xbf}},
	{{0xed, 0xed}, {0x80, 0x9f}, {0x80, 0xbf}},
	{{0xf0, 0xf0}, {0x90, 0xbf}, {0x80, 0xbf}, {0x80, 0xbf}},
	{{0xf1, 0xf3}, {0x80, 0xbf}, {0x80, 0xbf}, {0x80, 0xbf}},
	{{0xf4, 0xf4}, {0x80, 0x8f}, {0x80, 0xbf}, {0x80, 0xbf}},
}

// letterAt is how many bytes from a place on are a letter, or the beginning of one, and whether it is whole.
func letterAt(s string, at int) (int, bool) {
	most := 0
	for _, r := range rows {
		n := 0
		for n < len(r) && at+n < len(s) && s[at+n] >= r[n][0] && s[at+n] <= r[n][1] {
			n++
		}
		if n == len(r) {
			return n, true
		}
		most = max(most, n)
	}
	return most, false
}

// goodUTF8 is how many bytes are the beginning of some UTF-8, and whether all are whole letters.
func goodUTF8(s string) (int, bool) {
	for at := 0; at < len(s); {
		n, whole := letterAt(s, at)
		if !whole {
			return at + n, false
		}
		at += n
	}
	return len(s), true
}

// mayBe says it as the chapter's words do.
func mayBe(v api.Jot) bool {
	hasNumber, hasText, hasNames, hasItems := false, false, false, false
	switch v.Kind {
	case 0, 1, 2:
	case 3:
		hasNumber = true
	case 4:
		hasText = true
	case 5:
		hasItems = true
	case 6:
		hasNames, hasItems = true, true
	default:
		return false
	}
	if !hasNumber && v.Number != 0 || !hasText && v.Text != "" || !hasNames && len(v.Names) > 0 || !hasItems && len(v.Items) > 0 {
		return false
	}
	if v.Number < -9007199254740991 || v.Number > 9007199254740991 {
		return false
	}
	if _, is := goodUTF8(v.Text); !is {
		return false
	}
	for _, name := range v.Names {
		if _, is := goodUTF8(name); !is {
			return false
		}
	}
	rising := slices.Compact(slices.Sorted(slices.Values(v.Names)))
	return slices.Equal(rising, v.Names) && (!hasNames || len(v.Names) == len(v.Items))
}

func allMayBe(v api.Jot) bool {
	for _, item := range v.Items {
		if !allMayBe(item) {
			return false
		}
	}
	return mayBe(v)
}

func depthOf(v api.Jot) int {
	if v.Kind != api.JotList && v.Kind != api.JotObject {
		return 0
	}
	d := 0
	for _, item := range v.Items {
		d = max(d, depthOf(item))
	}
	return d + 1
}

// form is a text in quotes, byte by byte.
func form(s string) string {
	short := map[byte]string{'"': `\"`, '\\': `\\`, 8: `\b`, 9: `\t`, 10: `\n`, 12: `\f`, 13: `\r`}
	out := []byte{'"'}
	for _, b := range []byte(s) {
		switch {
		case short[b] != "":
			out = append(out, short[b]...)
		case b < 32:
			out = fmt.Appendf(out, "\\u%04x", b)
		default:
			out = append(out, b)
		}
	}
	return string(append(out, '"'))
}

// printed is the printed form of a value whose parts may all be.
func printed(v api.Jot) string {
	var items []string
	for n, item := range v.Items {
		s := printed(item)
		if v.Kind == api.JotObject {
			s = form(v.Names[n]) + ":" + s
		}
		items = append(items, s)
	}
	switch v.Kind {
	case api.JotNumber:
		return fmt.Sprint(v.Number)
	case api.JotText:
		return form(v.Text)
	case api.JotList:
		return "[" + strings.Join(items, ",") + "]"
	case api.JotObject:
		return "{" + strings.Join(items, ",") + "}"
	}
	return []string{"null", "false", "true"}[v.Kind]
}

// wantPrinted is J1.
func wantPrinted(v api.Jot) (string, api.Errno) {
	if !allMayBe(v) {
		return "", api.ErrJotValue
	}
	if depthOf(v) > 16 {
		return "", api.ErrJotDeep
	}
	if s := printed(v); len(s) <= 4000 {
		return s, api.OK
	}
	return "", api.ErrJotLong
}

// copied is a value with the same parts, in new memory.
func copied(v api.Jot) api.Jot {
	v.Text = strings.Clone(v.Text)
	v.Names = append([]string(nil), v.Names...)
	for n := range v.Names {
		v.Names[n] = strings.Clone(v.Names[n])
	}
	v.Items = append([]api.Jot(nil), v.Items...)
	for n := range v.Items {
		v.Items[n] = copied(v.Items[n])
	}
	return v
}

// alike is J4, said otherwise: what two values have is told in one text each.
func alike(a, b api.Jot) bool { return told(a) == told(b) }

func told(v api.Jot) string {
	var out strings.Builder
	tell(&out, v)
	return out.String()
}

func tell(out *strings.Builder, v api.Jot) {
	fmt.Fprintf(out, "(%d %d %q %q %d", v.Kind, v.Number, v.Text, v.Names, len(v.Items))
	for _, item := range v.Items {
		tell(out, item)
	}
	out.WriteString(")")
}

// memory is where the texts and lists of a value stand: first and last byte, spare room too.
func memory(v api.Jot) [][2]uintptr {
	var all [][2]uintptr
	add := func(p unsafe.Pointer, size uintptr) {
		if size > 0 {
			all = append(all, [2]uintptr{uintptr(p), uintptr(p) + size - 1})
		}
	}
	add(unsafe.Pointer(unsafe.StringData(v.Text)), uintptr(len(v.Text)))
	add(unsafe.Pointer(unsafe.SliceData(v.Names)), uintptr(cap(v.Names))*unsafe.Sizeof(""))
	add(unsafe.Pointer(unsafe.SliceData(v.Items)), uintptr(cap(v.Items))*unsafe.Sizeof(api.Jot{}))
	for _, name := range v.Names {
		add(unsafe.Pointer(unsafe.StringData(name)), uintptr(len(name)))
	}
	for _, item := range v.Items {
		all = append(all, memory(item)...)
	}
	return all
}

// share says whether some of these pieces of memory lie over some of those.
func share(these, those [][2]uintptr) bool {
	type edge struct {
		at   uintptr
		mine bool
		step int
	}
	var edges []edge
	for side, all := range [][][2]uintptr{these, those} {
		for _, piece := range all {
			edges = append(edges, edge{piece[0], side == 0, 1}, edge{piece[1] + 1, side == 0, -1})
		}
	}
	// Where one ends, another one may begin: so ends go ahead.
	sort.Slice(edges, func(a, b int) bool {
		return edges[a].at < edges[b].at || edges[a].at == edges[b].at && edges[a].step < edges[b].step
	})
	open := map[bool]int{}
	for _, e := range edges {
		open[e.mine] += e.step
		if open[true] > 0 && open[false] > 0 {
			return true
		}
	}
	return false
}

// overlap says whether some of these pieces of memory lie over one another.
func overlap(all [][2]uintptr) bool {
	pieces := slices.Clone(all)
	sort.Slice(pieces, func(a, b int) bool { return pieces[a][0] < pieces[b][0] })
	for n := 1; n < len(pieces); n++ {
		if pieces[n][0] <= pieces[n-1][1] {
			return true
		}
	}
	return false
}

// textMemory is where a text stands.
func textMemory(s string) [][2]uintptr { return memory(text(s)) }

var pieces = []string{
	"a", "b", "z", " ", "/", "\"", "\\", "\x00", "\x01", "\x08", "\x09", "\x0a", "\x0b", "\x0c", "\x0d", "\x1f", "\x7f",
	"\u0080", "\u00e9", "\u07ff", "\u0800", "\ud7ff", "\ue000", "\ufffd", "\uffff", "\U00010000", "\U0001f600", "\U0010ffff", "[", "{", ":", ",", "\\u0041",
}

func someText(r *rand.Rand) string {
	out := ""
	for range r.Intn(4) {
		out += pieces[r.Intn(len(pieces))]
	}
	return out
}

func someNumber(r *rand.Rand) int {
	switch r.Intn(4) {
	case 0:
		return r.Intn(21) - 10
	case 1:
		return []int{-1, 1}[r.Intn(2)] * (api.MaxNumber - r.Intn(3))
	}
	return r.Intn(api.MaxNumber) >> r.Intn(53) * []int{-1, 1}[r.Intn(2)]
}

// someValue is one whose parts may be, at most so deep.
func someValue(r *rand.Rand, deep int) api.Jot {
	kind := r.Intn(8)
	if deep == 0 {
		kind = r.Intn(5)
	}
	switch kind {
	case 0, 1, 2:
		return api.Jot{Kind: kind}
	case 3:
		return num(someNumber(r))
	case 4:
		return text(someText(r))
	}
	var names []string
	var items []api.Jot
	for range r.Intn(4) {
		names = append(names, someText(r))
		items = append(items, someValue(r, deep-1))
	}
	if kind == 5 {
		return list(items...)
	}
	slices.Sort(names)
	names = slices.Compact(names)
	return object(names, items[:len(names)]...)
}

// somewhere changes one of the parts of a value.
func somewhere(r *rand.Rand, v *api.Jot, change func(*api.Jot)) {
	for len(v.Items) > 0 && r.Intn(3) > 0 {
		v = &v.Items[r.Intn(len(v.Items))]
	}
	change(v)
}

// spoil makes a part into one that may perhaps not be.
func spoil(r *rand.Rand, v *api.Jot) {
	switch r.Intn(8) {
	case 0:
		v.Kind = r.Intn(9) - 1
	case 1:
		v.Number = []int{1, -1, api.MaxNumber + 1, -api.MaxNumber - 1}[r.Intn(4)]
	case 2:
		v.Text = []string{"x", "\xc3", "\xed\xa0\x80", "\xff"}[r.Intn(4)]
	case 3:
		v.Names = append(v.Names, []string{"", "zz", "\xf4\x90\x80\x80"}[r.Intn(3)])
	case 4:
		v.Items = append(v.Items, null)
	case 5:
		slices.Reverse(v.Names)
	case 6:
		if len(v.Names) > 1 {
			v.Names[0] = v.Names[1]
		}
	case 7:
		v.Names, v.Items = []string{}, nil
	}
}

// loose is a text of a value, with blanks, escapes and members in any order.
func loose(r *rand.Rand, v api.Jot) string {
	blanks := func() string {
		return []string{"", "", "", " ", "\t", "\n", "\r", " \n "}[r.Intn(8)]
	}
	var items []string
	for n, item := range v.Items {
		s := loose(r, item)
		if v.Kind == api.JotObject {
			s = blanks() + looseText(r, v.Names[n]) + blanks() + ":" + s
		}
		items = append(items, s)
	}
	if len(items) == 0 {
		items = []string{blanks()}
	}
	s := printed(v)
	switch v.Kind {
	case api.JotNumber:
		if v.Number == 0 && r.Intn(2) == 0 {
			s = "-0"
		}
	case api.JotText:
		s = looseText(r, v.Text)
	case api.JotList:
		s = "[" + strings.Join(items, ",") + "]"
	case api.JotObject:
		r.Shuffle(len(items), func(a, b int) { items[a], items[b] = items[b], items[a] })
		s = "{" + strings.Join(items, ",") + "}"
	}
	return blanks() + s + blanks()
}

// looseText is a text in quotes, with such escapes as it needs, and some more.
func looseText(r *rand.Rand, s string) string {
	out := `"`
	for _, c := range s {
		digits := []string{"\\u%04x", "\\u%04X"}[r.Intn(2)]
		switch {
		case r.Intn(3) > 0 && c != '/':
			quoted := form(string(c))
			out += quoted[1 : len(quoted)-1]
		case c == '/':
			out += []string{"/", `\/`}[r.Intn(2)]
		case c > 0xffff:
			out += fmt.Sprintf(digits+digits, 0xd800+(c-0x10000)/1024, 0xdc00+(c-0x10000)%1024)
		default:
			out += fmt.Sprintf(digits, c)
		}
	}
	return out + `"`
}

// parse is Parse with its answers in one.
func parse(s string) answer {
	v, errno, at := jot.Parse(s)
	return answer{v, errno, at}
}

type answer struct {
	v     api.Jot
	errno api.Errno
	at    int
}
