package table_test

import (
	"maps"
	"slices"
	"testing"

	"latchkey/api"
	"latchkey/check"
	"latchkey/disk"
	"latchkey/node"
	"latchkey/pager"
	"latchkey/record"
)

// B2: no store stands there.
func TestOpenNoStore(t *testing.T) {
	wantRefused(t, "noughts", blank(t, 16), api.ErrPagerForm)
	wantRefused(t, "other bytes", loaded(t, slices.Repeat([]string{many(512, "x")}, 16)), api.ErrPagerForm)
	d, x := atHome(t)
	image, root := d.Blocks(), x.Pager().Root()
	for n := range 512 {
		for _, block := range x.Pager().Reached() {
			turned := slices.Clone(image)
			b := []byte(image[block])
			b[n] ^= 0x40
			turned[block] = string(b)
			wantRefused(t, "a page that is torn", loaded(t, turned), api.ErrPagerForm)
		}
	}
	for _, wrong := range []int{root + 1, 63} {
		turned := slices.Clone(image)
		turned[1] = headOf(t, 9, wrong, 64, firstNote)
		wantRefused(t, "a root that is none", loaded(t, turned), api.ErrPagerForm)
	}
}

// B2: ErrDead is ahead of all else.
func TestOpenDead(t *testing.T) {
	stray := home().pairs(t)
	stray["q"] = ""
	for what, d := range map[string]*disk.Disk{
		"without a store": blank(t, 16),
		"with a table":    built(t, 64, home(), homeTime),
		"with another":    laid(t, 64, stray, firstNote),
		"to be mended":    laid(t, 64, home().records(t), noteOf(t, 300, homeTime)),
	} {
		kill(t, d)
		wantRefused(t, what, d, api.ErrDead)
	}
}

// B2: a pair that is no record's and no entry.
func TestOpenStrayPairs(t *testing.T) {
	family, _ := record.PrintFamily(home().families[0])
	event, _ := record.PrintEvent(someEvent(6))
	for what, pair := range map[string]api.Pair{
		"of no kind":                {Key: "q", Value: "none"},
		"of no kind, like a name":   {Key: "capp2!", Value: ""},
		"a letter alone":            {Key: "f", Value: family.Value},
		"a greater letter":          {Key: "F" + by(8, 20), Value: family.Value},
		"the least key":             {Key: "\x00", Value: ""},
		"the greatest key":          {Key: many(36, "\xff"), Value: many(200, "\xff")},
		"a client without a value":  {Key: "cnew", Value: ""},
		"a family of the ID 0":      {Key: "f" + by(8, 0), Value: family.Value},
		"a family that is too long": {Key: family.Key + "\x00", Value: family.Value},
		"an event and more":         {Key: event.Key, Value: event.Value + "\x00"},
		"a chain and more":          {Key: "h\x00", Value: ""},
		"a token without a value":   {Key: "t" + by(8, 20), Value: ""},
		"a code without a value":    {Key: "a" + by(8, 20), Value: ""},
		"a key without a value":     {Key: "k" + by(4, 20), Value: ""},
		"a member of no number":     {Key: "m" + by(8, 20) + by(4, 0), Value: by(8, 21)},
		"a member of no token":      {Key: "m" + by(8, 20) + by(4, 1), Value: by(8, 0)},
		"a member without a value":  {Key: "m" + by(8, 20) + by(4, 1), Value: ""},
		"an end with a value":       {Key: "x" + by(6, 9) + by(8, 20), Value: "\x00"},
		"an end that is no time":    {Key: "x" + by(6, lastTime+1) + by(8, 20), Value: ""},
		"a subject of no name":      {Key: "sANN\x00" + by(8, 20), Value: ""},
		"a subject with a value":    {Key: "sann\x00" + by(8, 20), Value: "\x00"},
		"a subject of the ID 0":     {Key: "sann\x00" + by(8, 0), Value: ""},
	} {
		pairs := home().pairs(t)
		pairs[pair.Key] = pair.Value
		wantRefused(t, what, laid(t, 64, pairs, noteOf(t, 300, homeTime)), api.ErrTableForm)
		wantRefused(t, what+", alone", laid(t, 16, map[string]string{pair.Key: pair.Value}, firstNote), api.ErrTableForm)
		maps.DeleteFunc(pairs, func(key, _ string) bool { return key[0] == 'x' })
		pairs[pair.Key] = pair.Value
		wantRefused(t, what+", and indexes to be mended", laid(t, 64, pairs, noteOf(t, 300, homeTime)), api.ErrTableForm)
	}
}

// B2: each byte of each record's value turned: then it is no record, or they do not belong together, or that is what is opened, with its indexes.
func TestOpenTurnedRecords(t *testing.T) {
	t.Parallel()
	note := noteOf(t, 300, homeTime)
	for key, value := range home().records(t) {
		for n := range len(value) {
			pairs := home().pairs(t)
			pairs[key] = value[:n] + string([]byte{value[n] ^ 1}) + value[n+1:]
			wantOpenAs(t, "a byte turned", laid(t, 64, pairs, note))
		}
	}
}

// wantOpenAs is that Open does what it must, whatever pairs stand on a disk: it says which.
func wantOpenAs(t *testing.T, what string, d *disk.Disk) bool {
	t.Helper()
	pairs := standing(t, d)
	p, errno := pager.Mount(d)
	wantErrno(t, "Mount", errno, api.OK)
	next, now, errno := record.ParseNote(p.Note())
	wantErrno(t, "ParseNote", errno, api.OK)
	l, right := told(pairs)
	l.next = next
	if !right || !l.belong(now) {
		wantRefused(t, what, d, api.ErrTableForm)
		return false
	}
	opened(t, d)
	wantStands(t, what, d, l, now)
	return true
}

// B2: the note of its head is none.
func TestOpenNoNote(t *testing.T) {
	for _, note := range []string{many(16, "\x00"), many(16, "n"), by(8, 300) + by(6, lastTime+1) + "\x00\x00", by(8, 300) + by(6, homeTime) + "\x00\x01", by(8, 300) + by(6, homeTime) + "\x01\x00", by(8, lastID+2) + by(6, homeTime) + "\x00\x00", by(8, most) + by(6, homeTime) + "\x00\x00", "\xff" + by(8, 300)[1:] + by(6, homeTime) + "\x00\x00"} {
		wantRefused(t, "no note", laid(t, 64, home().pairs(t), note), api.ErrTableForm)
		wantRefused(t, "no note, no records", laid(t, 64, nil, note), api.ErrTableForm)
	}
}

// B2: the next ID and the time are the note's, up to the last ones.
func TestOpenNote(t *testing.T) {
	for _, next := range []int{300, 1 << 32, lastID - 1, lastID, lastID + 1} {
		for _, now := range []int{homeTime, homeTime + 1, lastTime - 1, lastTime} {
			l := home()
			l.next = next
			wantTable(t, "a note", built(t, 64, l, now), l, now)
		}
	}
	wantTable(t, "the least note", laid(t, 8, nil, firstNote), lists{next: 1}, 0)
	wantTable(t, "the last note", laid(t, 8, nil, by(8, lastID+1)+by(6, lastTime)+"\x00\x00"), lists{next: lastID + 1}, lastTime)
}

// B2: what stands is what is read, also what is pending.
func TestOpenPending(t *testing.T) {
	image := built(t, 64, home(), homeTime).Blocks()
	d := blank(t, 64)
	for n, block := range image {
		wantErrno(t, "Write", d.Write(n, block), api.OK)
	}
	wantTable(t, "pending", d, home(), homeTime)
}

// leaf is a leaf of pairs.
func leaf(pairs ...api.Pair) api.Node {
	n := api.Node{Leaf: true}
	for _, p := range pairs {
		n.Keys, n.Values = append(n.Keys, p.Key), append(n.Values, p.Value)
	}
	return n
}

// noted are the pairs of some events, from one number to another, and, if they are the last ones, of their chain.
func noted(t *testing.T, from, to, last int) []api.Pair {
	t.Helper()
	var l []api.Pair
	for n := from; n <= to; n++ {
		p, errno := record.PrintEvent(api.Event{Number: n, Kind: 1, Who: "app"})
		wantErrno(t, "PrintEvent", errno, api.OK)
		l = append(l, p)
	}
	if to == last {
		p, errno := record.PrintChain(someChain(0, last+1))
		wantErrno(t, "PrintChain", errno, api.OK)
		l = append(l, p)
	}
	return l
}

// nodesLaid is a disk on which nodes stand from the page 2 on, of which the last one is the root, whether they are a sound tree or not.
func nodesLaid(t *testing.T, nodes ...api.Node) *disk.Disk {
	t.Helper()
	d := blank(t, 32)
	wantErrno(t, "Format", pager.Format(d, firstNote), api.OK)
	p, errno := pager.Mount(d)
	wantErrno(t, "Mount", errno, api.OK)
	var fresh []api.Page
	for n, one := range nodes {
		page, errno := node.Page(one)
		wantErrno(t, "Page", errno, api.OK)
		page.Number = 2 + n
		fresh = append(fresh, page)
	}
	wantErrno(t, "Commit", p.Commit(fresh, 1+len(nodes), firstNote, nil), api.OK)
	return d
}

// eventKey is the key of an event, and noughts behind it, as many as it takes to have 36 bytes.
func eventKey(number int) string { return "e" + by(8, number) + many(27, "\x00") }

// B2: a look finds something, where each page is one, and each pair that of a record, and the records belong together.
func TestOpenFindings(t *testing.T) {
	four := []api.Node{leaf(noted(t, 1, 5, 25)...), leaf(noted(t, 6, 10, 25)...), leaf(noted(t, 11, 15, 25)...), leaf(noted(t, 16, 20, 25)...)}
	last := leaf(noted(t, 21, 25, 25)...)
	below := api.Node{Keys: []string{eventKey(5), eventKey(10), eventKey(15)}, Kids: []int{2, 3, 4, 5}}
	for _, c := range []struct {
		what  string
		nodes []api.Node
		found []api.Finding
	}{
		{"sound", []api.Node{four[0], leaf(noted(t, 6, 10, 10)...), {Keys: []string{"e" + by(8, 6)}, Kids: []int{2, 3}}}, nil},
		{"poor", []api.Node{leaf(noted(t, 1, 3, 10)...), leaf(noted(t, 4, 10, 10)...), {Keys: []string{"e" + by(8, 4)}, Kids: []int{2, 3}}}, []api.Finding{{Kind: api.FindNode, Page: 2}}},
		{"out of its bounds", []api.Node{four[0], leaf(noted(t, 6, 10, 10)...), {Keys: []string{"e" + by(8, 5)}, Kids: []int{2, 3}}}, []api.Finding{{Kind: api.FindOrder, Page: 2}}},
		{"not equally deep", slices.Concat(four, []api.Node{below, last, {Keys: []string{"e" + by(8, 21)}, Kids: []int{6, 7}}}), []api.Finding{{Kind: api.FindDepth, Page: 7}}},
	} {
		d := nodesLaid(t, c.nodes...)
		if got, errno := check.Image(d.Blocks()); !slices.Equal(got, c.found) || errno != api.OK {
			t.Fatalf("%s: Image: %v, %d", c.what, got, errno)
		}
		if c.found == nil {
			l := lists{next: 1, chains: []api.Chain{someChain(0, 11)}}
			for n := range 10 {
				l.events = append(l.events, api.Event{Number: 1 + n, Kind: 1, Who: "app"})
			}
			wantTable(t, c.what, d, l, 0)
			continue
		}
		wantRefused(t, c.what, d, api.ErrTableForm)
	}
}

// B2: pages that are a store, and no tree.
func TestOpenNoTree(t *testing.T) {
	for what, page := range map[string]api.Page{
		"another kind": {Kind: 3, Number: 2},
		"no body":      {Kind: 1, Number: 2},
		"a wrong body": {Kind: 1, Number: 2, Body: "\x01\x04capp"},
	} {
		d := blank(t, 8)
		wantErrno(t, "Format", pager.Format(d, firstNote), api.OK)
		p, errno := pager.Mount(d)
		wantErrno(t, "Mount", errno, api.OK)
		wantErrno(t, "Commit", p.Commit([]api.Page{page}, 2, firstNote, nil), api.OK)
		wantRefused(t, what, d, api.ErrTableForm)
	}
}

// B2: what nobody reaches is not looked at, nor what stands behind a head's sector.
func TestOpenLitter(t *testing.T) {
	d, x := atHome(t)
	image, reached := d.Blocks(), x.Pager().Reached()
	for n := range image {
		if n > 1 && !slices.Contains(reached, n) {
			image[n] = many(512, "x")
		}
	}
	last := x.Pager().Generation() % 2
	image[last], image[1-last] = image[last][:64]+many(448, "x"), many(512, "y")
	wantTable(t, "litter", loaded(t, image), home(), homeTime)
}

// R2, R3: a table is opened while another one is, and knows of nothing that was begun there.
func TestOpenTwice(t *testing.T) {
	d, x := atHome(t)
	wantErrno(t, "PutClient", x.PutClient(someClient("new")), api.OK)
	_, errno := x.ID()
	wantErrno(t, "ID", errno, api.OK)
	x.See(homeTime + 5)
	wantTable(t, "the other one", d, home(), homeTime)
}
