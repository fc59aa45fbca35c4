package right_test

import (
	"fmt"
	"math/rand"
	"testing"

	"congress/api"
	"congress/right"
)

// Tables that may be: of up to 16, with any sessions, revoked or not.
func TestMay(t *testing.T) {
	for many := range 17 {
		l := hand(many)
		if !agreeMay(t, l) {
			t.Errorf("%d may not be", many)
		}
		for i := range l {
			l[i].revoked, l[i].session, l[i].give = true, most-uint64(i%2)*most, 7
		}
		if !agreeMay(t, l) {
			t.Errorf("%d, revoked, may not be", many)
		}
	}
	for _, handle := range oddNumbers[1:] {
		for _, other := range near(handle) {
			if other != 0 && !agreeMay(t, []card{{handle, 1, 1, false}, {other, 1, 1, false}}) {
				t.Errorf("%d and %d may not be", handle, other)
			}
		}
	}
}

// Each condition broken alone, at each place.
func TestMayNot(t *testing.T) {
	for _, many := range []int{1, 2, 3, 15, 16} {
		for at := range many {
			for _, gone := range []bool{false, true} {
				whole := func() []card {
					l := hand(many)
					l[at].revoked = gone
					return l
				}
				broken := map[string][]card{}
				l := whole()
				l[at].handle = 0
				broken["handle 0"] = l
				for _, give := range wrongGifts {
					l := whole()
					l[at].give = give
					broken[fmt.Sprintf("give %d", give)] = l
				}
				for other := range many {
					if other != at {
						l := whole()
						l[at].handle = l[other].handle
						broken[fmt.Sprintf("the handle of %d", other)] = l
					}
				}
				for name, l := range broken {
					if agreeMay(t, l) {
						t.Errorf("%s, place %d of %d: may be", name, at, many)
					}
				}
				if !agreeMay(t, whole()) {
					t.Errorf("place %d of %d, unbroken: may not be", at, many)
				}
			}
		}
	}
}

// Tables of more than 16.
func TestMayNotMany(t *testing.T) {
	for _, many := range []int{17, 18, 32, 33, 256, 272, 65536, 65552} {
		if agreeMay(t, hand(many)) {
			t.Errorf("%d may be", many)
		}
	}
}

// P1: nil and empty tables are the same, and each call ends without a panic.
func TestEmpty(t *testing.T) {
	for name, x := range map[string][]api.Right{"nil": nil, "empty": {}, "empty with room": make([]api.Right, 0, 20)} {
		ends(t, name, func() {
			if !right.May(x) {
				t.Errorf("%s: may not be", name)
			}
			if y, e := right.Mint(x, most, 0, 7); e != api.OK || len(y) != 1 || y[0] != (api.Right{Handle: most, Give: 7}) {
				t.Errorf("%s: Mint is %v, error %d", name, y, e)
			}
			if y, e := right.Mint(x, 0, 0, 0); e != api.ErrArg || len(y) != 0 {
				t.Errorf("%s: Mint is %v, error %d", name, y, e)
			}
			if s, e := right.Check(x, 0, 0); s != 0 || e != api.ErrRight {
				t.Errorf("%s: Check is %d, error %d", name, s, e)
			}
			if y, e := right.Revoke(x, 0); e != api.ErrRight || len(y) != 0 {
				t.Errorf("%s: Revoke is %v, error %d", name, y, e)
			}
			if y := right.Drop(x, 0); len(y) != 0 {
				t.Errorf("%s: Drop is %v", name, y)
			}
			if room := x[:cap(x)]; len(room) > 0 && room[0] != (api.Right{}) {
				t.Errorf("%s: behind it stands %v", name, room[0])
			}
		})
	}
}

// P1: a long table, in which nothing may be.
func TestLong(t *testing.T) {
	var l []card
	for i := range 200000 {
		l = append(l, card{uint64(i / 2), uint64(i % 3), wrongGifts[i%len(wrongGifts)], i%5 == 0})
	}
	ends(t, "a long table", func() {
		x := tableOf(l)
		if right.May(x) {
			t.Error("a long table may be")
		}
		if _, e := right.Mint(x, 1<<40, 1, 1); e != api.ErrFull {
			t.Errorf("Mint: error %d", e)
		}
		if s, e := right.Check(x, 1<<40, 1); s != 0 || e != api.ErrRight {
			t.Errorf("Check: %d, error %d", s, e)
		}
		if y, e := right.Revoke(x, 99998); e != api.OK || len(y) != len(l) || !y[199996].Revoked {
			t.Errorf("Revoke: error %d", e)
		}
		if y := right.Drop(x, 2); len(y) != 133334 {
			t.Errorf("Drop leaves %d", len(y))
		}
	})
}

// P16.1, P16.2: all calls at drawn tables, of which most may not be.
func TestDrawnTables(t *testing.T) {
	r := rand.New(rand.NewSource(161))
	codes := map[string]int{}
	for range 6000 {
		l := drawnCards(r, []int{3, 8, 24}[r.Intn(3)])
		pick := func() uint64 {
			if len(l) > 0 && r.Intn(2) == 0 {
				return l[r.Intn(len(l))].handle
			}
			return drawnNumber(r)
		}
		_, code := agreeMint(t, l, pick(), drawnNumber(r), drawnGift(r))
		codes[fmt.Sprintf("mint %d", code)]++
		_, code = agreeCheck(t, l, pick(), drawnGift(r))
		codes[fmt.Sprintf("check %d", code)]++
		_, code = agreeRevoke(t, l, pick())
		codes[fmt.Sprintf("revoke %d", code)]++
		if left := agreeDrop(t, l, drawnNumber(r)); len(left) < len(l) && len(left) > 0 {
			codes["some dropped"]++
		}
		codes[fmt.Sprintf("may %v", agreeMay(t, l))]++
	}
	for _, what := range []string{"mint 0", "mint 1", "mint 161", "check 0", "check 160", "revoke 0", "revoke 160", "some dropped", "may true", "may false"} {
		if codes[what] < 50 {
			t.Errorf("%s came %d times: %v", what, codes[what], codes)
		}
	}
}
