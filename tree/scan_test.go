package tree_test

import (
	"fmt"
	"testing"

	"latchkey/api"
)

// T4: most is 0 to 4096.
func TestScanMost(t *testing.T) {
	s := abc(t)
	all := pairs("a", val(200), "b", val(200), "c", val(200))
	for _, n := range []int{least, -1, 4097, most} {
		wantScan(t, s.x, "", "", n, nil, api.ErrArg)
	}
	wantScan(t, s.x, "", "", 0, nil, api.OK)
	for n := range 3 {
		wantScan(t, s.x, "", "", n, all[:n], api.OK)
	}
	wantScan(t, s.x, "", "", 3, all, api.OK)
	wantScan(t, s.x, "", "", 4096, all, api.OK)
	dead(t, s.d)
	wantScan(t, s.x, "", "", -1, nil, api.ErrArg)
	wantScan(t, s.x, "", "", 4097, nil, api.ErrArg)
	if s.p.Doubt() {
		t.Fatal("the pager is in doubt, and nobody was told of it")
	}
	wantScan(t, s.x, "b", "b", 0, nil, api.ErrDead)
	wantScan(t, s.x, "", "", 4096, nil, api.ErrDead)
}

// T4: more pairs than one answer gives: those that stand, and those that are changes.
func TestScanMany(t *testing.T) {
	s := began(t, 300)
	var all []api.Pair
	for i := range 5000 {
		pair := api.Pair{Key: fmt.Sprintf("%04d", i), Value: ""}
		all = append(all, pair)
		wantPut(t, s.x, pair.Key, pair.Value, api.OK)
	}
	check := func() {
		wantScan(t, s.x, "", "", 4096, all[:4096], api.OK)
		wantScan(t, s.x, "", "", 4095, all[:4095], api.OK)
		wantScan(t, s.x, "0905", "", 4096, all[905:], api.OK)
		wantScan(t, s.x, "0904", "", 4096, all[904:], api.OK)
		wantScan(t, s.x, "0903", "", 4096, all[903:4999], api.OK)
	}
	check()
	wantCommit(t, s.x, api.OK)
	check()
	wantDelete(t, s.x, "2000", true, api.OK)
	wantScan(t, s.x, "", "", 4096, append(all[:2000:2000], all[2001:4097]...), api.OK)
}

// T4: from and to are any texts.
func TestScanBounds(t *testing.T) {
	l := pairs("b", "1", "bb", "2", "c", "3", "d", "4")
	for _, committed := range []bool{false, true} {
		s := began(t, 8)
		for _, pair := range l {
			wantPut(t, s.x, pair.Key, pair.Value, api.OK)
		}
		if committed {
			wantCommit(t, s.x, api.OK)
		}
		for _, c := range []struct {
			from, to string
			want     []api.Pair
		}{
			{"", "", l}, {"a", "", l}, {"b", "", l}, {"b\x00", "", l[1:]}, {"d", "", l[3:]}, {"d\x00", "", nil}, {"e", "", nil},
			{"", "a", nil}, {"", "b", nil}, {"", "b\x00", l[:1]}, {"", "bb", l[:1]}, {"", "d", l[:3]}, {"", "e", l},
			{"b", "b", nil}, {"bb", "b", nil}, {"c", "bb", nil}, {"z", "a", nil}, {"bb", "d", l[1:3]}, {"ba", "cc", l[1:3]},
			{"\x00", "\xff", l}, {key("b", 100), key("c", 1000), l[2:3]}, {key("a", 40), key("z", 37), l},
		} {
			wantScan(t, s.x, c.from, c.to, every, c.want, api.OK)
		}
	}
}

// T4: changes within what stands, at its ends and between, over a tree of several leaves.
func TestScanChanged(t *testing.T) {
	l := stout(12)
	s := having(t, 40, l)
	stands := map[string]string{}
	for _, pair := range l {
		stands[pair.Key] = pair.Value
	}
	has := map[string]string{}
	for _, pair := range l {
		has[pair.Key] = pair.Value
	}
	put := func(key, value string) {
		wantPut(t, s.x, key, value, api.OK)
		has[key] = value
	}
	del := func(key string) {
		wantDelete(t, s.x, key, true, api.OK)
		delete(has, key)
	}
	check := func() {
		for _, from := range []string{"", "0", "A", "Ab", "Ac", "Cb", "Da", "Lb", "Lc"} {
			for _, to := range []string{"", "A", "Ab", "Ac", "Db", "Ea", "Lb", "Lc"} {
				for _, n := range []int{0, 1, 2, 5, 11, 12, 13, every} {
					wantScan(t, s.x, from, to, n, rising(has, from, to, n), api.OK)
				}
			}
		}
	}
	check()
	put("0", "ahead of all")
	put("M", "behind all")
	put("Ca", "between")
	put("Cb", "another value")
	check()
	del("Ab")
	del("Lb")
	del("Db")
	del("Eb")
	check()
	del("0")
	del("M")
	check()
	for _, pair := range l {
		if _, is := has[pair.Key]; is {
			del(pair.Key)
		}
	}
	check()
	del("Ca")
	wantScan(t, s.x, "", "", every, nil, api.OK)
	s.x.Abort()
	wantScan(t, s.x, "", "", every, rising(stands, "", "", every), api.OK)
}

// T4: over trees of several levels, from each key on.
func TestScanDeep(t *testing.T) {
	l := remote(75)
	s := having(t, 200, l)
	for i, pair := range l {
		wantScan(t, s.x, pair.Key, "", every, l[i:], api.OK)
		wantScan(t, s.x, pair.Key, "", 3, l[i:min(i+3, 75)], api.OK)
		wantScan(t, s.x, "", pair.Key, every, l[:i], api.OK)
		wantScan(t, s.x, pair.Key+"\x00", "", 1, l[i+1:min(i+2, 75)], api.OK)
	}
	wantScan(t, s.x, "", "p", every, nil, api.OK)
	wantScan(t, s.x, "q", "", every, nil, api.OK)
}
