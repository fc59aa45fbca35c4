package roster_test

import (
	"fmt"
	"math/rand"
	"slices"
	"testing"

	"congress/api"
	"congress/roster"
)

// P17.2: rosters that may be.
func TestMay(t *testing.T) {
	for name, h := range map[string]hall{
		"nothing":                       {},
		"nobody, last 1":                {last: 1},
		"nobody, last 65535":            {last: 65535},
		"a first of 1":                  {1, []seat{{1, 0}}},
		"one of Last":                   {7, []seat{{7, 0}}},
		"one below Last":                {8, []seat{{7, 0}}},
		"1 to 4":                        {4, []seat{{1, 0}, {2, 0}, {3, 0}, {4, 0}}},
		"2 to 5, last 65535":            {65535, []seat{{2, 0}, {3, 9}, {4, 0}, {5, 1}}},
		"the last of all":               {65535, []seat{{65532, 0}, {65533, 0}, {65534, 0}, {65535, 0}}},
		"far apart":                     {65535, []seat{{1, 5}, {256, 4}, {65535, 3}}},
		"the greatest Numbers":          {9, []seat{{1, 1<<32 - 1}, {5, 1<<32 - 1}, {6, 1<<32 - 1}, {9, 1<<32 - 1}}},
		"Numbers that fall":             {9, []seat{{1, 4}, {5, 3}, {6, 2}, {9, 0}}},
		"a Number above Last, not 2^32": {1, []seat{{1, 1 << 31}}},
	} {
		if !agreeMay(t, h) {
			t.Errorf("%s: %s may not be", name, h)
		}
	}
	for n := range 5 {
		if !agreeMay(t, many(n)) {
			t.Errorf("%d may not be", n)
		}
	}
}

// P17.2: at most 4 sessions.
func TestMayNotMany(t *testing.T) {
	for n, want := range map[int]bool{0: true, 3: true, 4: true, 5: false, 6: false, 8: false, 256: false, 260: false, 20000: false} {
		h := many(n)
		h.last = 65535
		if agreeMay(t, h) != want {
			t.Errorf("%d: not %v", n, want)
		}
	}
	if agreeMay(t, hall{5, []seat{{1, 0}, {2, 0}, {3, 0}, {4, 0}, {5, 0}}}) {
		t.Error("1 to 5 may be")
	}
}

// P17.2: Last at most 65535, with sessions and without.
func TestMayLast(t *testing.T) {
	for _, last := range append([]uint64{65538, 1 << 17, 1<<17 - 1, 1<<48 + 3}, oddNumbers...) {
		for n := range 5 {
			h := many(n)
			h.last = last
			if got, want := agreeMay(t, h), last <= 65535 && (n == 0 || last >= h.seats[n-1].id); got != want {
				t.Errorf("last %d of %d: %v", last, n, got)
			}
		}
	}
}

// brokenAt is halls of as many, each with one condition broken, at one place
// alone.
func brokenAt(n, at int) map[string]hall {
	broken := map[string]hall{}
	with := func(name string, s seat) {
		h := many(n)
		h.seats[at] = s
		broken[name] = h
	}
	s := many(n).seats[at]
	for _, number := range []uint64{1 << 32, 1<<32 + 1, 1 << 33, 1 << 63, most - 1, most} {
		with(fmt.Sprintf("Number %d", number), seat{s.id, number})
	}
	if at == 0 {
		with("a first of 0", seat{0, 0})
	}
	if at > 0 {
		ahead := many(n).seats[at-1].id
		with("an Id of 0", seat{0, 0})
		with("the Id ahead", seat{ahead, 0})
		with("an Id that falls by one", seat{ahead - 1, 0})
		with("an Id that falls", seat{1, 0})
	}
	if at == n-1 {
		for _, id := range []uint64{many(n).last + 1, 65535, 65536, 1 << 16 * s.id, 1<<32 + s.id, 1<<63 + s.id, most} {
			with(fmt.Sprintf("Id %d above Last", id), seat{id, 0})
		}
	}
	return broken
}

// P17.2: each condition broken alone, at each place.
func TestMayNot(t *testing.T) {
	for n := 1; n <= 4; n++ {
		for at := range n {
			if !agreeMay(t, many(n)) {
				t.Fatalf("%s, unbroken, may not be", many(n))
			}
			for name, h := range brokenAt(n, at) {
				if agreeMay(t, h) {
					t.Errorf("%s, place %d of %d: %s may be", name, at, n, h)
				}
			}
			h := many(n)
			h.seats[at].number = 1<<32 - 1
			if !agreeMay(t, h) {
				t.Errorf("%s may not be", h)
			}
		}
	}
}

// P17.2: Ids that are equal, or fall, wherever they stand; all orders of four.
func TestMayOrder(t *testing.T) {
	ids := []uint64{1, 2, 5, 65535}
	for code := range 256 {
		h := hall{last: 65535}
		places := []int{code & 3, code >> 2 & 3, code >> 4 & 3, code >> 6}
		for _, i := range places {
			h.seats = append(h.seats, seat{ids[i], 0})
		}
		if got, want := agreeMay(t, h), slices.Equal(places, []int{0, 1, 2, 3}); got != want {
			t.Errorf("%s: %v", h, got)
		}
	}
}

// wrongHalls are rosters that may not be.
func wrongHalls() []hall {
	l := []hall{
		{9, []seat{{0, 0}}},
		{9, []seat{{0, 1}, {0, 2}, {1, 0}}},
		{9, []seat{{3, 1}, {3, 2}}},
		{9, []seat{{3, 1<<32 - 1}, {3, 2}}},
		{9, []seat{{3, 2}, {3, 1<<32 - 1}}},
		{9, []seat{{3, most}, {3, most}, {3, most}}},
		{9, []seat{{5, 1}, {3, 2}, {4, 3}, {1, 4}}},
		{9, []seat{{5, 1}, {3, 2}, {5, 3}, {3, 4}}},
		{0, []seat{{1, 0}, {2, 0}}},
		{2, []seat{{1, 0}, {3, 0}}},
		{2, []seat{{65535, 0}, {most, 0}}},
		{65536, []seat{{1, 0}}},
		{most, []seat{{most, most}}},
		{most, []seat{{0, most}, {most, 0}}},
		{last: most},
		many(5), many(6), many(100),
		many(4).with(seat{2, 9}),
		many(4).with(seat{0, most}, seat{11, 9}),
	}
	return append(l, hall{65535, many(5).seats}, hall{65536, many(5).seats}, hall{0, many(5).seats})
}

// P17.1, P1: all calls of rosters that may not be.
func TestWrongRosters(t *testing.T) {
	for _, h := range wrongHalls() {
		if agreeMay(t, h) {
			t.Errorf("%s may be", h)
		}
		agreeAll(t, h, append([]uint64{4, 5, 8, 9, 11, 12, 14, 299}, oddNumbers...)...)
	}
}

// P1, R5: nil and empty lists are the same, and each call ends without a panic.
func TestEmpty(t *testing.T) {
	for name, list := range map[string][]api.Session{"nil": nil, "empty": {}, "empty with room": make([]api.Session, 0, 9)} {
		for _, last := range oddNumbers {
			r := api.Roster{Last: last, List: list}
			ends(t, name, func() {
				if may := roster.May(r); may != (last < 65536) {
					t.Errorf("%s, last %d: May is %v", name, last, may)
				}
				got, id, e := roster.Open(r)
				want := answer{code: full}
				if last < 65535 {
					want = answer{hall{last + 1, []seat{{last + 1, 0}}}, last + 1, fine}
				}
				if a := (answer{hallOf(got), id, int(e)}); !a.same(want) {
					t.Errorf("%s, last %d: Open is %v, not %v", name, last, a, want)
				}
				for _, id := range oddNumbers {
					if got, e := roster.Close(r, id); e != api.ErrSession || got.Last != 0 || len(got.List) != 0 {
						t.Errorf("%s: Close is %v, error %d", name, got, e)
					}
					if got, n, e := roster.Next(r, id); e != api.ErrSession || got.Last != 0 || len(got.List) != 0 || n != 0 {
						t.Errorf("%s: Next is %v, %d, error %d", name, got, n, e)
					}
					if roster.Has(r, id) {
						t.Errorf("%s has %d", name, id)
					}
				}
				if room := list[:cap(list)]; len(room) > 0 && room[0] != (api.Session{}) {
					t.Errorf("%s: behind it stands %v", name, room[0])
				}
			})
		}
	}
}

// P1: a long roster, in which nothing may be.
func TestLong(t *testing.T) {
	h := hall{last: 7}
	for i := range 200000 {
		h.seats = append(h.seats, seat{uint64(100000 - i/2), uint64(i) << 16})
	}
	ends(t, "a long roster", func() {
		agreeAll(t, h, 0, 1, 2, 100000, 100001, 50000, most)
		if got := agreeClose(t, h, 1); len(got.seats) != 199999 || got.seats[199998] != h.seats[199999] {
			t.Error("the first of the last two is not closed")
		}
		if got := agreeNext(t, h, 99999); got.n != 2<<16+1 {
			t.Errorf("Next is %d", got.n)
		}
	})
}

// P17.1, P17.2: all calls at drawn rosters, of which most may not be.
func TestDrawnHalls(t *testing.T) {
	r := rand.New(rand.NewSource(171))
	codes := map[string]int{}
	for range 8000 {
		h := drawnHall(r, []int{2, 4, 9}[r.Intn(3)])
		pick := func() uint64 {
			if len(h.seats) > 0 && r.Intn(2) == 0 {
				return h.seats[r.Intn(len(h.seats))].id
			}
			return drawnNumber(r)
		}
		codes[fmt.Sprintf("open %d", agreeOpen(t, h).code)]++
		codes[fmt.Sprintf("close %d", agreeClose(t, h, pick()).code)]++
		id := pick()
		codes[fmt.Sprintf("next %d, has %v", agreeNext(t, h, id).code, agreeHas(t, h, id))]++
		codes[fmt.Sprintf("may %v", agreeMay(t, h))]++
	}
	for _, what := range []string{"open 0", "open 161", "close 0", "close 162", "next 0, has true", "next 162, has true", "next 162, has false", "may true", "may false"} {
		if codes[what] < 100 {
			t.Errorf("%s came %d times: %v", what, codes[what], codes)
		}
	}
}
