package access_test

import (
	"math/rand"
	"testing"

	"latchkey/access"
	"latchkey/api"
)

// wantCurrent is that a key is the one that signs.
func wantCurrent(t *testing.T, keys []api.Key, now int, want api.Key) {
	t.Helper()
	if k, is := access.Current(keys, now); k != want || !is {
		t.Fatalf("Current(%v, %d): %v, %v; want %v", keys, now, k, is, want)
	}
}

// wantNone is that none does.
func wantNone(t *testing.T, keys []api.Key, now int) {
	t.Helper()
	if k, is := access.Current(keys, now); k != (api.Key{}) || is {
		t.Fatalf("Current(%v, %d): %v, %v", keys, now, k, is)
	}
}

// A4: no keys; one that signs from its From on, and not at its Until.
func TestCurrentOne(t *testing.T) {
	for _, now := range []int{least, -1, 0, 1, 50, lastTime, most} {
		wantNone(t, nil, now)
		wantNone(t, []api.Key{}, now)
		wantNone(t, []api.Key{{}}, now)
	}
	l := []api.Key{three()} // from 10 up to 100
	for _, now := range []int{least, -1, 0, 9, 100, 101, lastTime, most} {
		wantNone(t, l, now)
	}
	for _, now := range []int{10, 11, 99} {
		wantCurrent(t, l, now, three())
	}
	k := with(func(k *api.Key) { k.Until = k.From })
	for _, now := range []int{9, 10, 11} {
		wantNone(t, []api.Key{k}, now)
	}
}

// A4: a now that is no time counts as the nearest one.
func TestCurrentNearest(t *testing.T) {
	first, last := with(func(k *api.Key) { k.From = 0 }), with(func(k *api.Key) { k.Until = lastTime })
	for _, now := range []int{least, least + 1, -lastTime, -1, 0} {
		wantCurrent(t, []api.Key{last, first}, now, first)
		wantNone(t, []api.Key{with(func(k *api.Key) { k.From = 1 }), last}, now)
	}
	wantCurrent(t, []api.Key{first, last}, lastTime-1, last)
	for _, now := range []int{lastTime, lastTime + 1, lastID, most} {
		wantNone(t, []api.Key{first, last}, now)
		wild := with(func(k *api.Key) { k.Until = lastTime + 1 }) // of a key that may not be: the time is ahead of it
		wantCurrent(t, []api.Key{first, wild, last}, now, wild)
	}
}

// A4: the greatest From; of several the greatest Number; of several the first. Wherever they stand.
func TestCurrentOrder(t *testing.T) {
	old, older := api.Key{Number: 9, Secret: secret(1), From: 5, Until: 50}, api.Key{Number: 10, Secret: secret(2), From: 4, Until: 60}
	low, high := api.Key{Number: 2, Secret: secret(3), From: 6, Until: 50}, api.Key{Number: 3, Secret: secret(4), From: 6, Until: 40}
	again, short := high, api.Key{Number: 4, Secret: secret(6), From: 6, Until: 30}
	again.Secret, again.Until = secret(5), 99
	late := api.Key{Number: 1, Secret: secret(7), From: 35, Until: 36}
	for _, order := range orders(7) {
		l := make([]api.Key, 7)
		for n, place := range order {
			l[place] = []api.Key{old, older, low, high, again, short, late}[n]
		}
		first := high
		if order[4] < order[3] {
			first = again
		}
		for _, c := range []struct {
			now  int
			want api.Key
		}{{4, older}, {5, old}, {6, short}, {29, short}, {30, first}, {34, first}, {35, late}, {36, first}, {39, first}, {40, again}, {60, again}, {98, again}} {
			if c.now == 40 && order[4] > order[3] { // high is over, so the one behind it signs
				wantCurrent(t, l, 40, again)
				continue
			}
			wantCurrent(t, l, c.now, c.want)
		}
		wantNone(t, l, 3)
		wantNone(t, l, 99)
	}
}

// orders are all orders of so many things.
func orders(n int) [][]int {
	if n == 0 {
		return [][]int{nil}
	}
	var l [][]int
	for _, order := range orders(n - 1) {
		for place := range n {
			var next []int
			next = append(next, order[:place]...)
			next = append(next, n-1)
			l = append(l, append(next, order[place:]...))
		}
	}
	return l
}

// A4: keys such as may not be count as they are.
func TestCurrentWild(t *testing.T) {
	numbers := []int{least, -1, 0, 1, 5, lastTime - 1, lastTime, lastTime + 1, most}
	for _, number := range numbers {
		for _, from := range numbers {
			for _, until := range numbers {
				l := []api.Key{{Number: number, Secret: "x", From: from, Until: until}, {Number: 2, From: 1, Until: 3}, {Number: -5, From: least, Until: most}}
				for _, now := range numbers {
					k, is := access.Current(l, now)
					if want, there := currentOf(l, now); k != want || is != there {
						t.Fatalf("Current(%v, %d): %v, %v; want %v", l, now, k, is, want)
					}
				}
			}
		}
	}
}

// A4: keys and times at random.
func TestCurrentRandom(t *testing.T) {
	r := rand.New(rand.NewSource(4))
	some, none := 0, 0
	for n := range 100000 {
		var l []api.Key
		for range r.Intn(7) {
			from := r.Intn(6)
			l = append(l, api.Key{Number: 1 + r.Intn(4), Secret: secret(r.Intn(1000)), From: from, Until: drawn(r, from, from+r.Intn(6), lastTime)})
		}
		now := drawn(r, r.Intn(12)-1, n, lastTime, most, least)
		k, is := access.Current(l, now)
		want, there := currentOf(l, now)
		if k != want || is != there {
			t.Fatalf("Current(%v, %d): %v, %v; want %v", l, now, k, is, want)
		}
		if is {
			some++
		} else {
			none++
		}
	}
	if some < 10000 || none < 10000 {
		t.Fatalf("the test is wrong: %d, %d", some, none)
	}
}
