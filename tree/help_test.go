package tree_test

import (
	"encoding/binary"
	"hash/crc32"
	"math"
	"slices"
	"strings"
	"testing"

	"latchkey/api"
	"latchkey/disk"
	"latchkey/node"
	"latchkey/pager"
	"latchkey/tree"
)

const (
	least = math.MinInt
	most  = math.MaxInt
	worn  = 1 << 62 // the last generation
	every = 4096    // the most pairs that Scan and Back give
)

var (
	n16     = strings.Repeat("n", 16)
	m16     = strings.Repeat("m", 16)
	noughts = strings.Repeat("\x00", 512)
)

// val is a value of so many bytes.
func val(n int) string { return strings.Repeat("v", n) }

// key is one of so many bytes that begins with a letter.
func key(letter string, n int) string { return letter + strings.Repeat("k", n-1) }

// far is a key of 36 bytes that has 34 in common with all others of its kind, so that what parts two of them is long.
func far(n int) string {
	return strings.Repeat("p", 34) + string([]byte{byte('a' + n/26), byte('a' + n%26)})
}

// pairs are keys and values, by turns.
func pairs(texts ...string) []api.Pair {
	var l []api.Pair
	for i := 0; i < len(texts); i += 2 {
		l = append(l, api.Pair{Key: texts[i], Value: texts[i+1]})
	}
	return l
}

// store is a disk, its pager, and the tree of that.
type store struct {
	d *disk.Disk
	p *pager.Pager
	x *tree.Tree
}

// began is a store of so many blocks, with nothing in it.
func began(t *testing.T, blocks int) *store {
	t.Helper()
	d, errno := disk.New(blocks)
	wantErrno(t, "New", errno, api.OK)
	wantErrno(t, "Format", pager.Format(d, n16), api.OK)
	return mounted(t, d)
}

// mounted is the store that stands on a disk.
func mounted(t *testing.T, d *disk.Disk) *store {
	t.Helper()
	p, errno := pager.Mount(d)
	wantErrno(t, "Mount", errno, api.OK)
	return &store{d, p, tree.Open(p)}
}

// having is a store of so many blocks in which pairs stand.
func having(t *testing.T, blocks int, l []api.Pair) *store {
	t.Helper()
	s := began(t, blocks)
	for _, pair := range l {
		wantErrno(t, "Put", s.x.Put(pair.Key, pair.Value), api.OK)
	}
	wantErrno(t, "Commit", s.x.Commit(n16), api.OK)
	return s
}

// abc is a store of a tree of three nodes: the leaf 2 with a, the leaf 3 with b and c, the root 4.
func abc(t *testing.T) *store {
	t.Helper()
	return having(t, 16, pairs("a", val(200), "b", val(200), "c", val(200)))
}

// stout are so many pairs with values of 200 bytes, with room between their keys: of two letters, the second one a b.
func stout(n int) []api.Pair {
	var l []api.Pair
	for i := range n {
		l = append(l, api.Pair{Key: string([]byte{byte('A' + i), 'b'}), Value: val(200)})
	}
	return l
}

// remote are so many pairs of far keys with values of 200 bytes: 75 of them make a tree of three levels.
func remote(n int) []api.Pair {
	var l []api.Pair
	for i := range n {
		l = append(l, api.Pair{Key: far(i), Value: val(200)})
	}
	return l
}

// dead lets a disk die.
func dead(t *testing.T, d *disk.Disk) {
	t.Helper()
	wantErrno(t, "Arm", d.Arm(1), api.OK)
	wantErrno(t, "Sync", d.Sync(), api.ErrDead)
}

// reads is what may be asked of a tree that stands, and of one that was.
type reads interface {
	Get(key string) (string, bool, api.Errno)
	Scan(from, to string, most int) ([]api.Pair, api.Errno)
}

func wantErrno(t *testing.T, what string, got, want api.Errno) {
	t.Helper()
	if got != want {
		t.Fatalf("%s: %d, want %d", what, got, want)
	}
}

func wantGet(t *testing.T, x reads, key, value string, there bool, errno api.Errno) {
	t.Helper()
	if v, is, e := x.Get(key); v != value || is != there || e != errno {
		t.Fatalf("Get(%q): %q, %v, %d; want %q, %v, %d", key, v, is, e, value, there, errno)
	}
}

func wantPut(t *testing.T, x *tree.Tree, key, value string, errno api.Errno) {
	t.Helper()
	if e := x.Put(key, value); e != errno {
		t.Fatalf("Put(%q, %q): %d, want %d", key, value, e, errno)
	}
}

func wantDelete(t *testing.T, x *tree.Tree, key string, had bool, errno api.Errno) {
	t.Helper()
	if is, e := x.Delete(key); is != had || e != errno {
		t.Fatalf("Delete(%q): %v, %d; want %v, %d", key, is, e, had, errno)
	}
}

func wantScan(t *testing.T, x reads, from, to string, most int, want []api.Pair, errno api.Errno) {
	t.Helper()
	if l, e := x.Scan(from, to, most); !slices.Equal(l, want) || e != errno {
		t.Fatalf("Scan(%q, %q, %d): %v, %d; want %v, %d", from, to, most, l, e, want, errno)
	}
}

func wantBack(t *testing.T, x *tree.Past, from, to string, most int, want []api.Pair, errno api.Errno) {
	t.Helper()
	if l, e := x.Back(from, to, most); !slices.Equal(l, want) || e != errno {
		t.Fatalf("Back(%q, %q, %d): %v, %d; want %v, %d", from, to, most, l, e, want, errno)
	}
}

func wantChanges(t *testing.T, x *tree.Tree, want ...string) {
	t.Helper()
	if l := x.Changes(); !slices.Equal(l, want) {
		t.Fatalf("Changes: %q, want %q", l, want)
	}
}

func wantHeight(t *testing.T, x *tree.Tree, want int, errno api.Errno) {
	t.Helper()
	if h, e := x.Height(); h != want || e != errno {
		t.Fatalf("Height: %d, %d; want %d, %d", h, e, want, errno)
	}
}

func wantCommit(t *testing.T, x *tree.Tree, errno api.Errno) {
	t.Helper()
	wantErrno(t, "Commit", x.Commit(n16), errno)
}

// wantPages says which pages are reached, and from which root.
func wantPages(t *testing.T, p *pager.Pager, root int, reached ...int) {
	t.Helper()
	if l := p.Reached(); p.Root() != root || !slices.Equal(l, reached) {
		t.Fatalf("the root is %d, reached are %v; want %d, %v", p.Root(), l, root, reached)
	}
}

// wantNode says which node stands on a page.
func wantNode(t *testing.T, p *pager.Pager, number int, want api.Node) {
	t.Helper()
	page, errno := p.Read(number)
	wantErrno(t, "Read", errno, api.OK)
	n, errno := node.Parse(page)
	wantErrno(t, "Parse", errno, api.OK)
	if n.Leaf != want.Leaf || !slices.Equal(n.Keys, want.Keys) || !slices.Equal(n.Values, want.Values) || !slices.Equal(n.Kids, want.Kids) {
		t.Fatalf("on the page %d stands %v, want %v", number, n, want)
	}
}

// leaf is one of keys and values, by turns.
func leaf(texts ...string) api.Node {
	n := api.Node{Leaf: true}
	for _, pair := range pairs(texts...) {
		n.Keys = append(n.Keys, pair.Key)
		n.Values = append(n.Values, pair.Value)
	}
	return n
}

// inner is an inner node; its keys stand with a space between each two.
func inner(keys string, kids ...int) api.Node {
	return api.Node{Keys: strings.Fields(keys), Kids: kids}
}

// pageOf is the page of a node, laid out by chapter 10's words, whether that is right or not.
func pageOf(number, birth int, n api.Node) api.Page {
	page := api.Page{Kind: api.PageInner, Number: number, Birth: birth, Links: n.Kids}
	if n.Leaf {
		page.Kind = api.PageLeaf
	}
	body := []byte{byte(len(n.Keys))}
	for i, k := range n.Keys {
		body = append(append(body, byte(len(k))), k...)
		if n.Leaf {
			body = append(append(body, byte(len(n.Values[i]))), n.Values[i]...)
		}
	}
	page.Body = string(body)
	return page
}

// blockOf is a page's block, laid out by chapter 9's words.
func blockOf(p api.Page) string {
	b := make([]byte, 512)
	copy(b, "LP")
	b[2], b[3] = byte(p.Kind), byte(len(p.Links))
	binary.BigEndian.PutUint32(b[4:], uint32(p.Number))
	binary.BigEndian.PutUint64(b[8:], uint64(p.Birth))
	binary.BigEndian.PutUint16(b[16:], uint16(len(p.Body)))
	at := 20
	for _, n := range p.Links {
		binary.BigEndian.PutUint32(b[at:], uint32(n))
		at += 4
	}
	copy(b[at:508], p.Body)
	binary.BigEndian.PutUint32(b[508:], crc32.ChecksumIEEE(b[:508]))
	return string(b)
}

// headOf is a head's block, laid out by chapter 9's words.
func headOf(generation, root, blocks int, note string) string {
	b := make([]byte, 512)
	copy(b, "LKEY")
	binary.BigEndian.PutUint64(b[4:], uint64(generation))
	binary.BigEndian.PutUint32(b[12:], uint32(root))
	binary.BigEndian.PutUint32(b[16:], uint32(blocks))
	copy(b[20:36], note)
	binary.BigEndian.PutUint32(b[36:], crc32.ChecksumIEEE(b[:36]))
	return string(b)
}

// atLast is a store of so many blocks at its last generation, with nothing in it.
func atLast(t *testing.T, blocks int) *store {
	t.Helper()
	l := slices.Repeat([]string{noughts}, blocks)
	l[0] = headOf(worn, 0, blocks, n16)
	d, errno := disk.Load(l)
	wantErrno(t, "Load", errno, api.OK)
	return mounted(t, d)
}
