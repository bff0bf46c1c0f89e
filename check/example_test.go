package check_test

import (
	"slices"
	"testing"

	"latchkey/api"
	"latchkey/disk"
	"latchkey/pager"
)

// The chapter's example 1.
func TestExample1(t *testing.T) {
	l := slices.Repeat([]string{noughts}, 8)
	wantFound(t, "eight blocks of noughts", l, api.FindSuper, 0)
	wantNoImage(t, "seven blocks", l[:7])
	l[3] = noughts[:511]
	wantNoImage(t, "one of 511 bytes", l)
	d, _ := disk.New(8)
	wantErrno(t, "Format", pager.Format(d, n16), api.OK)
	wantFound(t, "behind Format", d.Blocks())
	wantTally(t, "behind Format", d.Blocks(), 0, 6, 0)
}

// The chapter's example 2.
func TestExample2(t *testing.T) {
	own := pages{2: inner("m", 2, 3), 3: leaf("x")}
	wantFound(t, "a root that names itself", own.image(8, 2), api.FindTwice, 2)
	wantFound(t, "and what is wrong with 3", own.with(3, leaf("a")).image(8, 2), api.FindTwice, 2, api.FindOrder, 3)
	both := pages{
		2: inner("m", 3, 4),
		3: inner(long("b")+" "+long("d")+" "+long("f"), 5, 6, 8, 7),
		4: inner(long("o")+" "+long("q")+" "+long("s"), 7, 9, 10, 11),
		5: leaf("a"), 6: leaf("c"), 8: leaf("e"), 7: leaf("g"), 9: leaf("p"), 10: leaf("r"), 11: leaf("t"),
	}
	wantFound(t, "two that name the leaf 7", both.image(12, 2), api.FindTwice, 7)
	wantFound(t, "the second way's bounds do not count", both.with(7, leaf("n")).image(12, 2), api.FindTwice, 7, api.FindOrder, 7)
}

// The chapter's example 3.
func TestExample3(t *testing.T) {
	l := low().image(8, 2)
	l[2] = turned(l[2], 508)
	wantFound(t, "a root of another check", l, api.FindPage, 2)
	small := leafOf("a", "1")
	wantFound(t, "a root leaf of one short key", pages{2: small}.image(8, 2))
	wantFound(t, "the same leaf below an inner root", low().with(3, small).image(8, 2), api.FindNode, 3)
}

// The chapter's example 4.
func TestExample4(t *testing.T) {
	wantFound(t, "p below m", low().with(3, leaf("p")).image(8, 2), api.FindOrder, 3)
}
