package access_test

import (
	"fmt"
	"testing"

	"latchkey/access"
	"latchkey/api"
)

// fault is what a table can not do.
type fault struct {
	dead   bool
	many   bool // four keys count
	number bool // the greatest Number is there
	events bool // no number is left for an event
	full   bool // no page is free
	aged   bool // no generation is left
}

// faults are all of them, alone and together.
func faults() []fault {
	var l []fault
	for n := range 64 {
		l = append(l, fault{n&1 > 0, n&2 > 0, n&4 > 0, n&8 > 0, n&16 > 0, n&32 > 0})
	}
	return l
}

// faulty is a table at 100, with that fault.
func faulty(t *testing.T, f fault) *both {
	t.Helper()
	untils, base, last := []int{50, lastTime}, 0, 4
	if f.many {
		untils = []int{200, 200, 150, lastTime}
	}
	if f.number {
		last = lastKey
	}
	if f.events {
		base = lastID
	}
	lays := append(layKeys(untils[:len(untils)-1]...), layKey(api.Key{Number: last, Secret: secret(4), From: 100, Until: untils[len(untils)-1]}))
	b := founded(t, 64, base, append(lays, crowd(100, 20)...)...)
	if f.full {
		b.d = tight(t, b.d, 0)
	}
	if f.aged {
		b.d = aged(t, b.d, worn)
	}
	b.x = opened(t, b.d)
	b.look("the table")
	if f.dead {
		kill(t, b.d)
	}
	return b
}

// crowd is a time, and so many families.
func crowd(now, families int) []lay {
	l := []lay{laySee(now)}
	for n := range families {
		l = append(l, layFamily(family(1+2*n)))
	}
	return l
}

// refusal is the error of a key that is made at such a table.
func (f fault) refusal() api.Errno {
	switch {
	case f.dead:
		return api.ErrDead
	case f.many:
		return api.ErrAccessMany
	case f.number || f.events:
		return api.ErrTableWorn
	case f.full:
		return api.ErrPagerFull
	case f.aged:
		return api.ErrPagerWorn
	}
	return api.OK
}

// A5: several things wrong at once, in the order in which the promise names them; all combinations. What is refused leaves the table as it was.
func TestNewKeyInOrder(t *testing.T) {
	t.Parallel()
	for _, f := range faults() {
		t.Run(fmt.Sprint(f), func(t *testing.T) {
			t.Parallel()
			b := faulty(t, f)
			for n := range 2 {
				b.unable(many(23, "s"), 5, 100+n, api.ErrArg)
				if f.refusal() != api.OK {
					b.unable(secret(9), 5, 100, f.refusal())
				}
			}
			if !f.dead {
				b.look("refused")
			}
			if f.refusal() == api.OK {
				b.makes(5, secret(9), 5, 100)
				b.reopen()
			}
		})
	}
}

// A6: what a text is worth is told whatever a commit would need; of a dead disk it is not.
func TestWorthInOrder(t *testing.T) {
	t.Parallel()
	c := claims()
	c.Issued, c.End, c.Family = 100, 130, 55
	for _, f := range faults() {
		b := faulty(t, f)
		number := map[bool]int{false: 4, true: lastKey}[f.number]
		for n, s := range []string{tokenOf(number, secret(4), "home", c), "", tokenOf(number, secret(4), "work", c), tokenOf(7, secret(4), "home", c)} {
			if b.d.Dead() {
				b.dead(s, 100)
				continue
			}
			if b.worth("home", s, 100) {
				t.Fatalf("%v, %d: there is no family 55", f, n)
			}
		}
	}
}

// A6: the same of a family that is alive, and of one that is not.
func TestWorthOnAFullDisk(t *testing.T) {
	b := homely(t, crowd(20, 20)...)
	b.d = aged(t, tight(t, b.d, 0), worn)
	b.x = opened(t, b.d)
	if !b.worth("home", example, 20) || b.worth("home", example, 40) {
		t.Fatal("Worth needs no room")
	}
	b.unable(secret(1), 5, 40, api.ErrPagerFull)
}

// R4: as much room as a key needs, and a page less: it is refused, or made as a whole.
func TestNewKeyAlmostFull(t *testing.T) {
	t.Parallel()
	image := founded(t, 200, 0, crowd(20, 20)...)
	for n := range 3 {
		image.makes(1+n, secret(n), 10, 30+n)
	}
	for n := range 4 { // none is over, one, two, three; the one ahead is given another end
		refused, made := 0, 0
		for spare := range 14 {
			d := tight(t, image.d, spare)
			b := &both{t, d, opened(t, d), image.e}
			b.e.now = b.e.noted
			now := []int{32, 41, 42, 50}[n]
			if k, errno := access.NewKey(opened(t, loaded(t, d.Blocks())), secret(9), 5, now); errno == api.ErrPagerFull && made == 0 {
				b.unable(secret(9), 5, now, api.ErrPagerFull)
				b.look("no room")
				refused++
			} else if b.makes(4, secret(9), 5, now); k != 4 {
				t.Fatalf("%d, %d", k, errno)
			} else {
				made++
			}
		}
		if refused == 0 || made == 0 {
			t.Fatalf("the test is wrong: %d refused, %d made", refused, made)
		}
	}
}

// R4: pins take the room; behind them the same key is made.
func TestNewKeyFullByPins(t *testing.T) {
	b := founded(t, 10, 0)
	number := 1
	for ; number < 40; number++ {
		if number <= 4 {
			_, errno := b.x.Pager().Pin()
			wantErrno(t, "Pin", errno, api.OK)
		}
		was := b.e
		b.e.NewKey(secret(number), 0, number)
		if _, errno := access.NewKey(b.x, secret(number), 0, number); errno != api.OK {
			wantErrno(t, "NewKey", errno, api.ErrPagerFull)
			b.e = was
			break
		}
	}
	for range 2 {
		b.unable(secret(number), 0, 50, api.ErrPagerFull)
	}
	for pin := range 4 {
		b.x.Pager().Unpin(pin + 1)
	}
	b.makes(number, secret(number), 0, 50)
	b.reopen()
}
