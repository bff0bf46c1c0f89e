package endpoint_test

import (
	"fmt"
	"reflect"
	"testing"

	"latchkey/api"
	"latchkey/disk"
)

// crashed is a disk on which the same stands and is pending, behind a crash that keeps all of the pending blocks, but of the last one only some sectors.
func crashed(t *testing.T, d *disk.Disk, sectors int) *disk.Disk {
	t.Helper()
	other := loaded(t, d.Blocks())
	var keep []api.Keep
	for n, w := range d.Pending() {
		wantErrno(t, "Write", other.Write(w.Block, w.Data), api.OK)
		keep = append(keep, api.Keep{N: n, Sectors: 255})
	}
	if len(keep) > 0 {
		keep[len(keep)-1].Sectors = sectors
	}
	wantErrno(t, "Crash", other.Crash(keep), api.OK)
	return other
}

// P2: a death in each act of a request, with many sets of sectors of the last block that was written: as it was, or as it would be, as a whole; what is asked again then is answered as it must be.
func TestEachAct(t *testing.T) {
	t.Parallel()
	base, requests := stage(t)
	for _, shown := range []string{"fresh", "late", "expired", "code", "used code", "revoked"} {
		t.Run(shown, func(t *testing.T) {
			t.Parallel()
			m, there := requests[shown]
			if !there {
				form, _ := formOf(requests["fresh"].Body)
				m = revoking("app", form["refresh_token"])
			}
			turned := 0
			for act := 1; ; act++ {
				b := stands(t, base, config())
				was, generation := toldOf(t, b.x), b.x.Pager().Generation()
				wantErrno(t, "Arm", b.d.Arm(act), api.OK)
				want := b.k.serve(m, 120, secret(50))
				a := b.e.Serve(m, 120, secret(50))
				if !b.d.Dead() {
					wantAnswer(t, shown, a, want)
					if act < 5 {
						t.Fatalf("%d acts", act-1)
					}
					break
				}
				wantAnswer(t, "it died", a, later)
				would := toldOf(t, b.x2)
				for _, sectors := range []int{0, 1, 2, 3, 85, 127, 128, 170, 254, 255} {
					what := fmt.Sprintf("act %d, sectors %d", act, sectors)
					other := stands(t, crashed(t, b.d, sectors), config())
					wantRight(t, what, other.d)
					is := was
					if other.x.Pager().Generation() > generation {
						turned++
						is = would
					}
					if e := toldOf(t, other.x); !reflect.DeepEqual(e, is) {
						t.Fatalf("%s: %+v, want %+v", what, e, is)
					}
					other.again(what, shown, m, want)
				}
			}
			if turned != 5 { // the head's first sector alone says which one counts
				t.Fatalf("%d crashes have let the change stand", turned)
			}
		})
	}
}

// again asks the same behind a crash: what was shown is not given another next token, and what ended is not given any.
func (b *both) again(what, shown string, m api.Message, want api.Answer) {
	b.t.Helper()
	stood := b.x.Pager().Generation()
	a := b.serve(m, 121, secret(60))
	switch shown {
	case "revoked":
		wantAnswer(b.t, what, a, done)
	case "late", "expired", "used code":
		wantAnswer(b.t, what, a, badGrant)
	case "code":
		if a.Status == 400 && b.x.Pager().Generation() == stood {
			b.t.Fatalf("%s: a code that comes again has ended nothing", what)
		}
	default:
		if a.Status != 200 || b.x.Pager().Generation() == stood && memberOf(a.Body, "refresh_token") != memberOf(want.Body, "refresh_token") {
			b.t.Fatalf("%s: %v, ahead of it would have been %v", what, a, want)
		}
	}
	b.look(what)
}

// The document's example 3: behind a crash in the last act of a rotation the first token is current, as it was, or it is spent: then it gives the token that nobody had got.
func TestLostAnswer(t *testing.T) {
	for _, sectors := range []int{0, 1} {
		b := stands(t, home(t), config())
		first := b.issue("app", "ann", nil, 100, 1).Token
		acts := stands(t, b.d, config())
		acts.gives(refreshing("app", first), 110, secret(2))
		wantErrno(t, "Arm", b.d.Arm(acts.d.Acts()), api.OK)
		wantAnswer(t, "it died", b.e.Serve(refreshing("app", first), 110, secret(2)), later)
		other := stands(t, crashed(t, b.d, sectors), config())
		next, _ := other.gives(refreshing("app", first), 111, secret(3))
		if want := map[int]string{0: textOf("lkr_", 3, secret(3)), 1: textOf("lkr_", 3, secret(2))}[sectors]; next != want {
			t.Fatalf("sectors %d: %s, want %s", sectors, next, want)
		}
	}
}
