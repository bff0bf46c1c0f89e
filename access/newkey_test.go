package access_test

import (
	"fmt"
	"testing"

	"latchkey/api"
)

// wantKeys is that a table has just these keys.
func wantKeys(t *testing.T, b *both, want ...api.Key) {
	t.Helper()
	l, errno := b.x.Keys()
	if errno != api.OK || fmt.Sprint(l) != fmt.Sprint(want) {
		t.Fatalf("the keys are %v, %d; want %v", l, errno, want)
	}
}

// wantUntils is that a table has keys, from a Number on, that count up to these times.
func wantUntils(t *testing.T, b *both, number int, untils ...int) {
	t.Helper()
	l, errno := b.x.Keys()
	if errno != api.OK || len(l) != len(untils) {
		t.Fatalf("the keys are %v, %d", l, errno)
	}
	for n, k := range l {
		if k.Number != number+n || k.Until != untils[n] {
			t.Fatalf("the keys are %v, want them from %d on, until %v", l, number, untils)
		}
	}
}

// A5: secrets that have not 24 bytes; also on a dead disk, and if there were too many.
func TestNewKeySecrets(t *testing.T) {
	b := founded(t, 64, 0, layKeys(50, 50, 50, 50)...)
	for _, s := range []string{"", "s", many(23, "s"), many(25, "s"), many(48, "s"), many(1<<16, "s"), many(12, "é") + "x"} {
		b.refuses(s, 10, 20, api.ErrArg)
		b.refuses(s, 10, 60, api.ErrArg)
	}
	kill(t, b.d)
	b.unable(many(23, "s"), 10, 70, api.ErrArg)
	b.unable(many(24, "s"), 10, 80, api.ErrDead)
	wantErrno(t, "Crash", b.d.Crash(nil), api.OK)
	b.unable(many(25, "s"), 10, 90, api.ErrArg)
	b.unable(many(24, "s"), 10, 95, api.ErrDead)
	b.reopen()
	for n, s := range []string{many(24, "s"), many(24, "\x00"), many(12, "é"), many(24, "\xff")} {
		b.makes(5+n, s, 1000, 60)
	}
}

// A5: the first key, the second to the fourth, one too many; behind the end of the first one another.
func TestNewKeyRow(t *testing.T) {
	b := founded(t, 64, 0)
	wantKeys(t, b)
	b.makes(1, secret(1), 30, 0)
	wantKeys(t, b, api.Key{Number: 1, Secret: secret(1), From: 0, Until: lastTime})
	b.makes(2, secret(2), 30, 10)
	wantUntils(t, b, 1, 40, lastTime)
	b.makes(3, secret(2), 5, 10) // the same Secret, and the same time
	wantUntils(t, b, 1, 40, 15, lastTime)
	b.makes(4, secret(4), 25, 14)
	wantUntils(t, b, 1, 40, 15, 39, lastTime)
	for range 2 {
		b.refuses(secret(5), 0, 14, api.ErrAccessMany)
	}
	b.makes(5, secret(5), 1000, 15)
	wantKeys(t, b,
		api.Key{Number: 1, Secret: secret(1), From: 0, Until: 40}, api.Key{Number: 3, Secret: secret(2), From: 10, Until: 39},
		api.Key{Number: 4, Secret: secret(4), From: 14, Until: 1015}, api.Key{Number: 5, Secret: secret(5), From: 15, Until: lastTime})
	b.refuses(secret(6), 0, 38, api.ErrAccessMany)
	b.reopen()
	b.makes(6, secret(6), 0, 40) // by then the keys 1 and 3 are over, and by this one the key 5
	b.makes(7, secret(7), 2, 41)
	wantKeys(t, b,
		api.Key{Number: 4, Secret: secret(4), From: 14, Until: 1015}, api.Key{Number: 6, Secret: secret(6), From: 40, Until: 43},
		api.Key{Number: 7, Secret: secret(7), From: 41, Until: lastTime})
}

// A5: keep below 0, none, and such as would be too much; at times from the first to the last one.
func TestNewKeyKeep(t *testing.T) {
	for _, c := range []struct{ now, keep, until int }{
		{200, 30, 230}, {200, 1, 201}, {200, 0, 200}, {200, -1, 200}, {200, -150, 200}, {200, least, 200}, {200, least + 1, 200},
		{200, lastTime - 201, lastTime - 1}, {200, lastTime - 200, lastTime}, {200, lastTime - 199, lastTime}, {200, lastTime, lastTime}, {200, lastTime + 1, lastTime}, {200, most, lastTime},
		{lastTime - 1, 0, lastTime - 1}, {lastTime - 1, 1, lastTime}, {lastTime - 1, 2, lastTime}, {lastTime - 1, most, lastTime},
		{100, 5, 105}, {99, 5, 105}, {0, 5, 105}, {-1, 5, 105}, {least, 5, 105}, {least, least, 100}, {least, most, lastTime}, // the time is 100 ahead of it
	} {
		b := founded(t, 64, 0)
		b.makes(1, secret(1), 7, 100)
		b.makes(2, secret(2), c.keep, c.now)
		wantUntils(t, b, 1, c.until, lastTime)
		b.reopen()
		wantUntils(t, b, 1, c.until, lastTime)
	}
}

// A5: a key whose Until is the last time still, for the keep was so great, is given another one with the next key.
func TestNewKeyKeepAgain(t *testing.T) {
	b := founded(t, 64, 0)
	b.makes(1, secret(1), 0, 10)
	b.makes(2, secret(2), most, 20)
	b.makes(3, secret(3), lastTime-30, 30)
	wantUntils(t, b, 1, lastTime, lastTime, lastTime)
	b.makes(4, secret(4), 5, 40)
	wantUntils(t, b, 1, 45, 45, 45, lastTime)
	b.refuses(secret(5), 5, 44, api.ErrAccessMany)
	b.makes(5, secret(5), 0, 45)
	wantUntils(t, b, 4, 45, lastTime) // the key 4 signs no more, but is there up to the next one
	b.makes(6, secret(6), 3, 45)
	wantUntils(t, b, 5, 48, lastTime)
}

// A5: a key whose Until is at the time, one ahead of it, one behind: who is counted, and who is taken away.
func TestNewKeyOver(t *testing.T) {
	for n, c := range []struct {
		untils []int
		made   int
		left   []int
	}{
		{[]int{100}, 2, []int{lastTime}},
		{[]int{99}, 2, []int{lastTime}},
		{[]int{101}, 2, []int{101, lastTime}},
		{[]int{lastTime}, 2, []int{107, lastTime}},
		{[]int{lastTime - 1}, 2, []int{lastTime - 1, lastTime}},
		{[]int{0, 99, 100, 101}, 5, []int{101, lastTime}},
		{[]int{0, 0, 0, 0}, 5, []int{lastTime}},
		{[]int{100, 101, 102, lastTime}, 5, []int{101, 102, 107, lastTime}},
		{[]int{101, 102, 103, 100}, 5, []int{101, 102, 103, lastTime}},
		{[]int{lastTime, lastTime, lastTime}, 4, []int{107, 107, 107, lastTime}},
		{[]int{101, 101, 101, 101}, 0, []int{101, 101, 101, 101}},
		{[]int{101, lastTime, lastTime, lastTime}, 0, []int{101, lastTime, lastTime, lastTime}},
	} {
		b := founded(t, 64, 0, layKeys(c.untils...)...)
		if c.made == 0 {
			b.refuses(secret(9), 7, 100, api.ErrAccessMany)
		} else {
			b.makes(c.made, secret(9), 7, 100)
		}
		l, errno := b.x.Keys()
		var untils []int
		for _, k := range l {
			untils = append(untils, k.Until)
		}
		if errno != api.OK || fmt.Sprint(untils) != fmt.Sprint(c.left) {
			t.Fatalf("%d: the keys are %v, %d", n, l, errno)
		}
		b.reopen()
	}
}

// A5: at the last time all keys are over, the one made last, too: each new one takes its place, and its Number goes on.
func TestNewKeyLastTime(t *testing.T) {
	b := founded(t, 64, 0, layKeys(50, lastTime-1, lastTime, lastTime)...)
	for n := range 5 {
		b.makes(5+n, secret(n), []int{0, most, 7, least, 1}[n], []int{lastTime, most, 5, lastID, least}[n])
		wantKeys(t, b, api.Key{Number: 5 + n, Secret: secret(n), From: lastTime, Until: lastTime})
		wantNone(t, b.e.keys, lastTime)
		b.reopen()
	}
}

// A5: the Number goes on from the greatest one that there was, also if that is taken away by this very key.
func TestNewKeyNumbers(t *testing.T) {
	for _, c := range []struct {
		numbers, untils []int
		made            int
	}{
		{[]int{7}, []int{50}, 8}, {[]int{7}, []int{lastTime}, 8}, {[]int{3, 900}, []int{lastTime, 50}, 901}, {[]int{3, 900}, []int{50, lastTime}, 901},
		{[]int{lastKey - 1}, []int{50}, lastKey}, {[]int{lastKey - 1}, []int{lastTime}, lastKey}, {[]int{1, lastKey - 1}, []int{lastTime, 99}, lastKey},
	} {
		var l []lay
		for n, number := range c.numbers {
			l = append(l, layKey(api.Key{Number: number, Secret: secret(n), Until: c.untils[n]}))
		}
		b := founded(t, 64, 0, l...)
		b.makes(c.made, secret(9), 20, 100)
		if c.made == lastKey {
			b.refuses(secret(9), 20, 1000, api.ErrTableWorn)
			b.refuses(secret(9), 20, lastTime, api.ErrTableWorn) // though it is over itself by then
			continue
		}
		b.makes(c.made+1, secret(9), 20, 1000)
	}
}

// A5: no Number is left: the table stays as it was, whatever else it has.
func TestNewKeyWornNumber(t *testing.T) {
	for _, until := range []int{0, 99, 100, 101, lastTime} {
		b := founded(t, 64, 0, layKey(api.Key{Number: 1, Secret: secret(1), Until: 50}), layKey(api.Key{Number: lastKey, Secret: secret(2), Until: until}))
		for range 2 {
			b.refuses(secret(3), 10, 100, api.ErrTableWorn)
		}
		wantKeys(t, b, api.Key{Number: 1, Secret: secret(1), Until: 50}, api.Key{Number: lastKey, Secret: secret(2), Until: until})
		b.reopen()
	}
}

// A5: the event: its kind, of no family, of nobody, at the time; 40 of them.
func TestNewKeyEvents(t *testing.T) {
	b := founded(t, 64, 0)
	for n := range 40 {
		b.makes(1+n, secret(n), 5, 10*n)
		l, errno := b.x.Events()
		if want := (api.Event{Number: 1 + n, Time: 10 * n, Kind: api.EventKey}); errno != api.OK || l[len(l)-1] != want || len(l) != min(n+1, 32) {
			t.Fatalf("the events are %v, %d; want %v", l, errno, want)
		}
	}
	b.reopen()
}

// A5: the last number for an event, and none.
func TestNewKeyWornEvents(t *testing.T) {
	b := founded(t, 64, lastID-2)
	b.makes(1, secret(1), 5, 10)
	b.makes(2, secret(2), 5, 10)
	for range 2 {
		b.refuses(secret(3), 5, 20, api.ErrTableWorn)
		wantUntils(t, b, 1, 15, lastTime)
	}
	b.reopen()
	b.refuses(secret(3), 5, 20, api.ErrTableWorn)
}

// A5: the same key once more, by the same secret at the same time, is another one; each is a commit with its event.
func TestNewKeySame(t *testing.T) {
	b := founded(t, 64, 0)
	for n := range 10 {
		b.makes(1+n, secret(1), 0, 50)
	}
	wantKeys(t, b, api.Key{Number: 9, Secret: secret(1), From: 50, Until: 50}, api.Key{Number: 10, Secret: secret(1), From: 50, Until: lastTime})
}

// A5: all else of a table stays as it was.
func TestNewKeyOthersStay(t *testing.T) {
	b := founded(t, 64, 0, laySee(30), layClient(app()), layFamily(family(1)), layFamily(family(5)))
	for n := range 6 {
		b.makes(1+n, secret(n), 2, 31+3*n)
	}
	b.reopen()
}
