package group_test

import (
	"fmt"
	"math/rand"
	"slices"
	"testing"

	"congress/api"
	"congress/group"
)

// May(t): tables that may be.
func TestMay(t *testing.T) {
	all := []int{0, 1, 2, 3, 4, 5, 6, 7}
	for name, p := range map[string]party{
		"nothing":                  nil,
		"all least":                {{0, 0, 0}},
		"all greatest":             {{7, 7, 65535}},
		"the group alone rises":    {{0, 1, 2}, {1, 1, 2}, {7, 1, 2}},
		"the daemon alone rises":   {{4, 0, 2}, {4, 1, 2}, {4, 7, 2}},
		"the session alone rises":  {{4, 1, 0}, {4, 1, 1}, {4, 1, 65535}},
		"all else falls by group":  {{0, 7, 65535}, {1, 6, 9}, {7, 0, 0}},
		"sessions fall by daemon":  {{3, 0, 65535}, {3, 1, 9}, {3, 7, 0}},
		"each session at each one": every(all, all, []uint64{0, 1, 255, 256, 65535}),
	} {
		if !agreeMay(t, p) {
			t.Errorf("%s: %s may not be", name, p)
		}
	}
	for _, row := range rows {
		if !agreeMay(t, row) {
			t.Errorf("%s may not be", row)
		}
	}
}

// chain is as many guests who stand in order, with room between them.
func chain(n int) party {
	var p party
	for i := range n {
		p = append(p, guest{1 + i/4, 1 + i%4/2*2, uint64(10 + i%2*10)})
	}
	return p
}

// May(t): a group, a daemon or a session out of its range, alone, at each place.
func TestMayRange(t *testing.T) {
	for _, n := range []int{1, 2, 3, 9} {
		for at := range n {
			if !agreeMay(t, chain(n)) {
				t.Fatalf("%s, unbroken, may not be", chain(n))
			}
			try := func(g guest) {
				t.Helper()
				p := chain(n)
				p[at] = g
				if agreeMay(t, p) {
					t.Errorf("%v at %d of %d: %s may be", g, at, n, p)
				}
			}
			g := chain(n)[at]
			for _, odd := range oddInts {
				if odd < 0 || odd > 7 {
					try(guest{odd, g.daemon, g.session})
					try(guest{g.group, odd, g.session})
				}
			}
			for _, odd := range oddSessions {
				if odd > 65535 {
					try(guest{g.group, g.daemon, odd})
				}
			}
		}
	}
}

// May(t): out of range where the order is unbroken: below 0 at the first place,
// above the range at the last.
func TestMayRangeInOrder(t *testing.T) {
	middle := chain(5)
	for _, below := range []guest{{-1, 1, 1}, {leastInt, 1, 1}, {-1, 7, 65535}, {0, -1, 1}, {1, -1, 1}, {1, leastInt, 65535}} {
		p := slices.Concat(party{below}, middle)
		if agreeMay(t, p) || agreeMay(t, party{below}) {
			t.Errorf("%s may be", p)
		}
	}
	for _, above := range []guest{{8, 1, 1}, {8, 0, 0}, {mostInt, 1, 1}, {7, 8, 1}, {7, mostInt, 0}, {2, 8, 0}, {7, 7, 65536}, {2, 1, 65536}, {7, 7, most}, {7, 0, 1 << 32}} {
		p := slices.Concat(middle, party{above})
		if agreeMay(t, p) || agreeMay(t, party{above}) {
			t.Errorf("%s may be", p)
		}
	}
	for _, edge := range []guest{{0, 0, 0}, {0, 7, 65535}, {1, 0, 65535}} {
		if p := slices.Concat(party{edge}, middle); !agreeMay(t, p) {
			t.Errorf("%s may not be", p)
		}
	}
	for _, edge := range []guest{{7, 7, 65535}, {7, 0, 0}, {2, 1, 65535}} {
		if p := slices.Concat(middle, party{edge}); !agreeMay(t, p) {
			t.Errorf("%s may not be", p)
		}
	}
}

// May(t): two that are equal, at each place.
func TestMayTwice(t *testing.T) {
	for _, n := range []int{1, 2, 3, 9} {
		for at := range n {
			p := chain(n)
			p = slices.Insert(p, at, p[at])
			if agreeMay(t, p) {
				t.Errorf("%s may be", p)
			}
			for other := range n {
				if p := slices.Insert(chain(n), other, chain(n)[at]); agreeMay(t, p) {
					t.Errorf("%s may be", p)
				}
			}
		}
	}
}

// May(t): two that fall, at each place: in the group, the daemon or the session.
func TestMayFalls(t *testing.T) {
	for _, n := range []int{2, 3, 9} {
		for at := range n - 1 {
			p := chain(n)
			p[at], p[at+1] = p[at+1], p[at]
			if agreeMay(t, p) {
				t.Errorf("%s may be", p)
			}
		}
		p := chain(n)
		p[0], p[n-1] = p[n-1], p[0]
		if agreeMay(t, p) {
			t.Errorf("%s may be", p)
		}
	}
	for _, p := range []party{
		{{1, 3, 5}, {0, 3, 5}},
		{{1, 3, 5}, {1, 2, 5}},
		{{1, 3, 5}, {1, 3, 4}},
		{{1, 3, 5}, {0, 4, 6}},
		{{1, 3, 5}, {1, 2, 6}},
		{{1, 3, 5}, {2, 0, 0}, {1, 3, 6}},
	} {
		if agreeMay(t, p) || agreeMay(t, slices.Concat(party{{0, 0, 0}}, p)) || agreeMay(t, slices.Concat(p, party{{7, 7, 7}})) {
			t.Errorf("%s may be", p)
		}
	}
}

// May(t): all orders of four guests, each as often as it comes.
func TestMayOrder(t *testing.T) {
	p := party{{2, 3, 9}, {2, 4, 8}, {2, 4, 10}, {3, 0, 0}}
	for code := range 256 {
		places := []int{code & 3, code >> 2 & 3, code >> 4 & 3, code >> 6}
		var drawn party
		for _, i := range places {
			drawn = append(drawn, p[i])
		}
		if got, want := agreeMay(t, drawn), slices.Equal(places, []int{0, 1, 2, 3}); got != want {
			t.Errorf("%s: %v", drawn, got)
		}
	}
}

// wrongParties are tables that may not be.
func wrongParties() []party {
	return []party{
		{{1, 1, 1}, {1, 1, 1}},
		{{1, 1, 1}, {0, 0, 0}, {1, 1, 1}, {0, 0, 0}},
		{{7, 7, 65535}, {5, 5, 5}, {3, 3, 3}, {0, 0, 0}},
		{{-1, 0, 0}, {8, 0, 0}, {0, -1, 0}, {0, 8, 0}, {0, 0, 65536}},
		{{leastInt, leastInt, most}, {mostInt, mostInt, most}, {leastInt, mostInt, 0}},
		{{mostInt, 1, 1}, {1, mostInt, 1}, {1, 1, most}},
		{{1, 1, 1}, {1, 1, 1 << 32}, {1, 1, 1 << 16}, {1, 1, 1<<32 + 1}, {1, 1, 1}},
		{{8, 8, 65536}, {8, 8, 65536}, {8, 8, 65536}},
		slices.Concat(chain(9), chain(9)),
		slices.Concat(chain(20)[5:], chain(9)[:3], party{{-5, -5, most}}),
	}
}

// P18.1, P18.2, P1: all calls of tables that may not be.
func TestWrongTables(t *testing.T) {
	for _, p := range wrongParties() {
		if agreeMay(t, p) {
			t.Errorf("%s may be", p)
		}
		ends(t, p.String(), func() {
			agreeAll(t, p, slices.Concat(p, every([]int{-1, 0, 1, 7, 8, leastInt, mostInt}, []int{-1, 0, 1, 7, 8, leastInt, mostInt}, []uint64{0, 1, 65535, 65536, most}))...)
		})
	}
}

// P1, R5: nil and empty tables are the same, and each call ends without a panic.
func TestEmpty(t *testing.T) {
	for name, table := range map[string][]api.Member{"nil": nil, "empty": {}, "empty with room": make([]api.Member, 0, 9)} {
		ends(t, name, func() {
			if !group.May(table) {
				t.Errorf("%s may not be", name)
			}
			for _, n := range oddInts {
				if v := group.View(table, n); len(v) != 0 {
					t.Errorf("%s: View %d is %v", name, n, v)
				}
			}
			for _, m := range someMembers {
				if k := group.Keep(table, m); len(k) != 0 {
					t.Errorf("%s: Keep %v is %v", name, m, k)
				}
			}
			for kind := -1; kind <= 5; kind++ {
				for _, g := range []guest{{}, {7, 7, 65535}, {8, 0, 0}, {0, 8, 0}, {0, 0, 65536}} {
					got, ok := group.Apply(table, g.daemon, deed{kind, g}.entry())
					want, is := party(nil).after(deed{kind, g})
					if ok != is || !partyOf(got).same(want) {
						t.Errorf("%s: kind %d of %v is %v, %v", name, kind, g, got, ok)
					}
				}
			}
			if got := table[:cap(table)]; len(got) > 0 && got[0] != (api.Member{}) {
				t.Errorf("%s: behind it stands %v", name, got[0])
			}
		})
	}
}

// P1: a long table, in which nothing may be, and one that may.
func TestLong(t *testing.T) {
	var wrong, right party
	for i := range 100000 {
		wrong = append(wrong, guest{9 - i%12, i%10 - 1, uint64(100000 - i/2)})
		right = append(right, guest{i / 20000, i / 10000 % 2, uint64(i % 10000)})
	}
	ends(t, "a long table that may not be", func() {
		agreeAll(t, wrong, wrong[0], wrong[99999], guest{4, 4, 4})
	})
	ends(t, "a long table", func() {
		agreeAll(t, right, right[0], right[50001], right[99999], guest{2, 0, 10001}, guest{7, 7, 7})
		if !agreeMay(t, right) {
			t.Error("it may not be")
		}
		if !agreeMay(t, right[:50000]) || agreeMay(t, append(right[:99999:99999], right[99998])) {
			t.Error("the last one does not count")
		}
	})
}

// P18.1, P18.2: all calls at drawn tables, of which most may not be.
func TestDrawnParties(t *testing.T) {
	r := rand.New(rand.NewSource(183))
	came := map[string]int{}
	for range 8000 {
		p := drawnParty(r, []int{2, 4, 9}[r.Intn(3)])
		if r.Intn(3) == 0 {
			p = drawnTable(r, 12)
		}
		pick := func() guest {
			if len(p) > 0 && r.Intn(2) == 0 {
				return p[r.Intn(len(p))]
			}
			return drawnGuest(r)
		}
		d := deed{[]int{joins, leaves, joins, leaves, joins, leaves, nothing, sends, 4}[r.Intn(9)], pick()}
		_, ok := agreeApply(t, p, d)
		came[fmt.Sprintf("kind %d, %v", d.kind, ok)]++
		came[fmt.Sprintf("view %v", len(agreeView(t, p, pick().group)) > 0)]++
		came[fmt.Sprintf("keep %v", len(agreeKeep(t, p, drawnMembers(r))) > 0)]++
		came[fmt.Sprintf("may %v", agreeMay(t, p))]++
	}
	for _, what := range []string{"kind 2, true", "kind 2, false", "kind 3, true", "kind 3, false", "kind 0, false", "kind 1, false", "kind 4, false", "view true", "view false", "keep true", "keep false", "may true", "may false"} {
		if came[what] < 200 {
			t.Errorf("%s came %d times: %v", what, came[what], came)
		}
	}
}
