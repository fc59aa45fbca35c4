package cut_test

import (
	"cmp"
	"math"
	"math/rand"
	"slices"
	"testing"
	"time"

	"congress/api"
	"congress/cut"
	"congress/round"
)

const most32 = math.MaxUint32

// edges are the counts at the ends of what a count may be.
var edges = []uint32{0, 1, most32 - 1, most32}

// some are the first daemon, one in the middle, and the last one.
var some = []int{0, 3, 7}

// strangers are numbers of no daemon.
var strangers = []int{-1, 8, 9, math.MinInt, math.MaxInt, 1 << 32, -1 << 32, 1<<32 + 3}

// slots are numbers of slots that are, and of slots that are none.
var slots = []int{0, 1, -1, 2, math.MinInt, math.MaxInt, 1 << 32, -1 << 32}

// choices are members with none, one, some and all, as crowd tells them.
var choices = []int{0, 1, 1 << 3, 1 << 7, 1 | 1<<7, 1<<2 | 1<<5, 127, 254, 255}

// spot is where a frame stands, told without the program's packages: its round,
// in a number that does not wrap, and whose it is.
type spot struct {
	round int64
	from  int
}

// crowd is the members that the bits of a choice tell, each with an incarnation
// of its own.
func crowd(choice int) api.Members {
	var m api.Members
	for daemon := range m {
		if choice>>daemon&1 != 0 {
			m[daemon] = most32 - uint32(daemon)
		}
	}
	return m
}

// all is counts of which each one is n.
func all(n uint32) api.Counts {
	return api.Counts{n, n, n, n, n, n, n, n}
}

// but is counts of which one is another.
func but(c api.Counts, daemon int, n uint32) api.Counts {
	c[daemon] = n
	return c
}

// fit is the number nearest to n that a count may be.
func fit(n int64) uint32 {
	return uint32(max(0, min(n, most32)))
}

// wide is counts in numbers that do not wrap.
func wide(c [8]uint32) [8]int64 {
	var l [8]int64
	for daemon, n := range c {
		l[daemon] = int64(n)
	}
	return l
}

// row is the spots of members' frames from a low round to a high one of each, in
// order: up to many of them.
func row(m [8]uint32, low, high [8]int64, many int) []spot {
	var l []spot
	for daemon := range 8 {
		for r := low[daemon]; m[daemon] > 0 && r <= high[daemon] && r < low[daemon]+int64(many); r++ {
			l = append(l, spot{r, daemon})
		}
	}
	slices.SortFunc(l, func(a, b spot) int {
		return cmp.Compare(a.round*8+int64(a.from), b.round*8+int64(b.from))
	})
	return l[:min(len(l), many)]
}

// lacking is an account of what who has c lacks of most.
func lacking(c, most, m [8]uint32) []spot {
	low := wide(c)
	for daemon := range low {
		low[daemon]++
	}
	return row(m, low, wide(most), 100)
}

// reached tells whether the first slot of a frame is not ahead of a round, a
// daemon and a slot.
func reached(s spot, r int64, from, slot int) bool {
	if s.round != r {
		return s.round > r
	}
	if s.from != from {
		return s.from > from
	}
	return slot <= 0
}

// left is an account of what is left, up to most, from a round, a daemon and a
// slot on.
func left(r int64, from, slot int, most, m [8]uint32) []spot {
	var low [8]int64
	for daemon := range low {
		low[daemon] = max(1, r-1)
		for !reached(spot{low[daemon], daemon}, r, from, slot) {
			low[daemon]++
		}
	}
	return row(m, low, wide(most), 100)
}

// placesOf is the program's form of spots.
func placesOf(l []spot) []api.Place {
	var places []api.Place
	for _, s := range l {
		places = append(places, api.Place{Round: uint32(s.round), From: s.from})
	}
	return places
}

// agreeMissing asks that Missing says what the account says.
func agreeMissing(t *testing.T, c, most api.Counts, m api.Members) []api.Place {
	t.Helper()
	c0, most0, m0 := c, most, m
	got := cut.Missing(c, most, m)
	if want := placesOf(lacking(c, most, m)); !slices.Equal(got, want) {
		t.Fatalf("Missing(%v, %v, %v): %v, not %v", c, most, m, got, want)
	}
	if c != c0 || most != most0 || m != m0 {
		t.Fatalf("Missing changed %v, %v, %v to %v, %v, %v", c0, most0, m0, c, most, m)
	}
	return got
}

// agreeRest asks that Rest says what the account says.
func agreeRest(t *testing.T, given api.Place, most api.Counts, m api.Members) []api.Place {
	t.Helper()
	given0, most0, m0 := given, most, m
	got := cut.Rest(given, most, m)
	if want := placesOf(left(int64(given.Round), given.From, given.Slot, most, m)); !slices.Equal(got, want) {
		t.Fatalf("Rest(%v, %v, %v): %v, not %v", given, most, m, got, want)
	}
	if given != given0 || most != most0 || m != m0 {
		t.Fatalf("Rest changed %v, %v, %v to %v, %v, %v", given0, most0, m0, given, most, m)
	}
	return got
}

// greatest is an account of the greatest counts: the last of each daemon's,
// sorted.
func greatest(l []api.Counts) api.Counts {
	var u api.Counts
	for daemon := range 8 {
		row := []int64{0}
		for _, c := range l {
			row = append(row, int64(c[daemon]))
		}
		slices.Sort(row)
		u[daemon] = uint32(row[len(row)-1])
	}
	return u
}

// agreeUnion asks that Union says what the account says, and leaves alone what
// it was given.
func agreeUnion(t *testing.T, l ...api.Counts) api.Counts {
	t.Helper()
	was := slices.Clone(l)
	got := cut.Union(l...)
	if want := greatest(l); got != want {
		t.Fatalf("Union(%v): %v, not %v", l, got, want)
	}
	if !slices.Equal(l, was) {
		t.Fatalf("Union changed %v to %v", was, l)
	}
	return got
}

// agreeWithin asks that Within says of no daemon that a's count is above b's.
func agreeWithin(t *testing.T, a, b api.Counts) bool {
	t.Helper()
	x, y := wide(a), wide(b)
	above := 0
	for daemon := range 8 {
		if x[daemon]-y[daemon] > 0 {
			above++
		}
	}
	got := cut.Within(a, b)
	if got != (above == 0) {
		t.Fatalf("Within(%v, %v): %v", a, b, got)
	}
	return got
}

// P11.1, P11.2: the chapter's examples.
func TestExamples(t *testing.T) {
	if u := cut.Union(api.Counts{1, 3}, api.Counts{2, 2}); u != (api.Counts{2, 3}) {
		t.Errorf("Union: %v", u)
	}
	got := cut.Missing(api.Counts{1, 2}, api.Counts{2, 3}, api.Members{1, 1})
	if want := []api.Place{{Round: 2, From: 0}, {Round: 3, From: 1}}; !slices.Equal(got, want) {
		t.Errorf("Missing: %v", got)
	}
}

// P11.1: the union of none, one, two and many, also of the same one.
func TestUnion(t *testing.T) {
	x, y := api.Counts{5, 0, 7, most32, 1, 2, 3, 0}, api.Counts{4, 1, 7, 0, most32 - 1, 2, 4, most32}
	both := api.Counts{5, 1, 7, most32, most32 - 1, 2, 4, most32}
	for _, c := range []struct {
		name string
		l    []api.Counts
		want api.Counts
	}{
		{"none, nil", nil, api.Counts{}},
		{"none, empty", []api.Counts{}, api.Counts{}},
		{"none, with room behind", make([]api.Counts, 0, 3), api.Counts{}},
		{"a zero one", []api.Counts{{}}, api.Counts{}},
		{"one", []api.Counts{x}, x},
		{"the same one again and again", []api.Counts{x, x, x}, x},
		{"two", []api.Counts{x, y}, both},
		{"the other way", []api.Counts{y, x}, both},
		{"with one that is within", []api.Counts{x, {1, 1, 1, 1, 1, 1, 1, 1}, y}, both},
		{"with zero ones about", []api.Counts{{}, y, {}, x, {}}, both},
		{"one of each daemon", []api.Counts{{1}, {1: 2}, {2: 3}, {3: 4}, {4: 5}, {5: 6}, {6: 7}, {7: 8}}, api.Counts{1, 2, 3, 4, 5, 6, 7, 8}},
		{"all at their most", []api.Counts{x, all(most32), y}, all(most32)},
	} {
		if got := agreeUnion(t, c.l...); got != c.want {
			t.Errorf("%s: %v", c.name, got)
		}
	}
}

// P11.1: counts at their edges, at the first daemon, a middle one and the last.
func TestUnionEdges(t *testing.T) {
	for _, at := range some {
		for _, n := range edges {
			if got := agreeUnion(t, but(api.Counts{}, at, n)); got[at] != n {
				t.Errorf("Union of one: %v", got)
			}
			for _, k := range edges {
				for _, rest := range edges {
					agreeUnion(t, but(all(rest), at, n), but(all(1), at, k))
					for _, other := range some {
						agreeUnion(t, but(all(rest), at, n), but(all(7), other, k), but(api.Counts{}, at, k))
					}
				}
			}
		}
	}
}

// P11.1: the same counts are within each other; where they differ at one daemon
// alone, they are one way only.
func TestWithin(t *testing.T) {
	for _, base := range []api.Counts{{}, {1, 2, 3, 4, 5, 6, 7, 8}, all(1), all(most32 - 1), all(most32), {0, most32, 1, most32 - 1}} {
		if !agreeWithin(t, base, base) {
			t.Errorf("%v is not within itself", base)
		}
		for at := range api.Daemons {
			for _, n := range []uint32{0, 1, base[at] - 1, base[at] + 1, 1 << 31, most32 - 1, most32} {
				other := but(base, at, n)
				if got := agreeWithin(t, base, other); got != (base[at] <= n) {
					t.Errorf("Within(%v, %v): %v", base, other, got)
				}
				if got := agreeWithin(t, other, base); got != (n <= base[at]) {
					t.Errorf("Within(%v, %v): %v", other, base, got)
				}
			}
		}
	}
}

// P11.1: where one daemon's count pulls one way, and another one's the other,
// neither is within the other one.
func TestWithinNeither(t *testing.T) {
	for up := range api.Daemons {
		for down := range api.Daemons {
			a, b := all(4), all(4)
			a[up], b[down] = 5, 5
			want := up == down
			if agreeWithin(t, a, b) != want || agreeWithin(t, b, a) != want {
				t.Errorf("%v and %v", a, b)
			}
		}
	}
	if cut.Within(api.Counts{1, 3}, api.Counts{2, 2}) || !cut.Within(api.Counts{1, 2}, api.Counts{2, 2}) {
		t.Error("Within")
	}
	if !cut.Within(api.Counts{}, all(most32)) || cut.Within(all(most32), api.Counts{}) {
		t.Error("Within of the least and the most")
	}
}

// P11.2: what is lacking, told one by one.
func TestMissing(t *testing.T) {
	for _, c := range []struct {
		name    string
		c, most api.Counts
		m       api.Members
		want    []spot
	}{
		{"nothing of nothing", api.Counts{}, api.Counts{}, crowd(255), nil},
		{"at most", api.Counts{4, 5}, api.Counts{4, 5}, crowd(3), nil},
		{"above most", api.Counts{5, most32}, api.Counts{4, 5}, crowd(3), nil},
		{"one below", api.Counts{3}, api.Counts{4}, crowd(1), []spot{{4, 0}}},
		{"the first round", api.Counts{}, api.Counts{1}, crowd(1), []spot{{1, 0}}},
		{"the first round of the last daemon", api.Counts{}, api.Counts{7: 1}, crowd(128), []spot{{1, 7}}},
		{"the last round", api.Counts{most32 - 1}, api.Counts{most32}, crowd(1), []spot{{most32, 0}}},
		{"none behind the last round", api.Counts{most32}, api.Counts{most32}, crowd(1), nil},
		{"rounds ahead of daemons", api.Counts{}, api.Counts{2, 2}, crowd(3), []spot{{1, 0}, {1, 1}, {2, 0}, {2, 1}}},
		{"unlike beginnings", api.Counts{3, 1, 2}, api.Counts{4, 4, 4}, crowd(7), []spot{{2, 1}, {3, 1}, {3, 2}, {4, 0}, {4, 1}, {4, 2}}},
		{"unlike ends", api.Counts{}, api.Counts{1, 3, 0, 2}, crowd(15), []spot{{1, 0}, {1, 1}, {1, 3}, {2, 1}, {2, 3}, {3, 1}}},
		{"rounds that nobody lacks between", api.Counts{0, 1000}, api.Counts{1, 1002}, crowd(3), []spot{{1, 0}, {1001, 1}, {1002, 1}}},
		{"one is above, another one below", api.Counts{9, 1}, api.Counts{3, 3}, crowd(3), []spot{{2, 1}, {3, 1}}},
		{"members alone", api.Counts{}, api.Counts{1, 1, 1, 1, 1, 1, 1, 1}, crowd(1<<1 | 1<<4 | 1<<7), []spot{{1, 1}, {1, 4}, {1, 7}}},
		{"no members", api.Counts{}, all(most32), crowd(0), nil},
		{"who is none is far ahead", api.Counts{0, 0}, api.Counts{2, most32}, crowd(1), []spot{{1, 0}, {2, 0}}},
		{"who is none is far behind", api.Counts{7, 0}, api.Counts{9, 1}, crowd(1), []spot{{8, 0}, {9, 0}}},
		{"at both ends", api.Counts{0, most32 - 1}, api.Counts{1, most32}, crowd(3), []spot{{1, 0}, {most32, 1}}},
	} {
		if got := agreeMissing(t, c.c, c.most, c.m); !slices.Equal(got, placesOf(c.want)) {
			t.Errorf("%s: %v", c.name, got)
		}
	}
}

// P11.2: of one member the first 100 rounds above its count, and no more.
func TestMissingOfOne(t *testing.T) {
	for _, at := range some {
		for _, most := range []uint32{200, 1 << 31, most32 - 1, most32} {
			for below, want := range map[uint32]int{0: 0, 1: 1, 2: 2, 98: 98, 99: 99, 100: 100, 101: 100, 102: 100, 200: 100, most: 100} {
				c := but(all(most32), at, most-below)
				got := agreeMissing(t, c, but(api.Counts{}, at, most), crowd(1<<at))
				if len(got) != want {
					t.Fatalf("%d below %d: %d of them", below, most, len(got))
				}
				if want > 0 && (got[0].Round != most-below+1 || got[want-1].Round != most-below+uint32(want)) {
					t.Errorf("%d below %d: %v", below, most, got)
				}
			}
		}
	}
}

// P11.2: members of all kinds, at counts above, at and below most, near and far;
// those that are no members above and below.
func TestMissingEdges(t *testing.T) {
	for _, choice := range choices {
		m := crowd(choice)
		for _, most := range []uint32{0, 1, 150, most32 - 1, most32} {
			for _, below := range []int64{-1000, -1, 0, 1, 2, 12, 13, 25, 49, 50, 51, 99, 100, 101, most32} {
				for _, step := range []int64{0, 1, -1, 30, -30} {
					var c, up, down api.Counts
					for daemon := range c {
						c[daemon] = fit(int64(most) - below + step*int64(daemon))
					}
					up, down = all(most), all(most)
					for daemon := range c {
						if m[daemon] == 0 {
							up[daemon], down[daemon] = most32, 0
						}
					}
					agreeMissing(t, c, all(most), m)
					a, b := agreeMissing(t, c, up, m), agreeMissing(t, c, down, m)
					if !slices.Equal(a, b) {
						t.Fatalf("Missing(%v, .., %v) hangs on who is no member", c, m)
					}
				}
			}
		}
	}
}

// P11.2: 99, 100 and 101 are lacking of all eight together, so that the bound
// falls within a round.
func TestMissingBound(t *testing.T) {
	for _, base := range []uint32{0, 5, most32 - 13} {
		most := all(base + 12)
		most[0], most[1], most[2] = base+13, base+13, base+13
		full := agreeMissing(t, all(base), most, crowd(255))
		if len(full) != 99 || full[98] != (api.Place{Round: base + 13, From: 2}) {
			t.Errorf("99: %d, %v", len(full), full)
		}
		for from := 3; from < 8; from++ {
			most[from] = base + 13
			got := agreeMissing(t, all(base), most, crowd(255))
			if len(got) != 100 || got[99] != (api.Place{Round: base + 13, From: 3}) {
				t.Errorf("above 99: %d, %v", len(got), got)
			}
		}
	}
}

// P11.2: what is left, told one by one.
func TestRest(t *testing.T) {
	for _, c := range []struct {
		name  string
		given api.Place
		most  api.Counts
		m     api.Members
		want  []spot
	}{
		{"from the zero place", api.Place{}, api.Counts{1, 2}, crowd(3), []spot{{1, 0}, {1, 1}, {2, 1}}},
		{"from the first one", api.Place{Round: 1}, api.Counts{1, 2}, crowd(3), []spot{{1, 0}, {1, 1}, {2, 1}}},
		{"from its slot 1", api.Place{Round: 1, Slot: 1}, api.Counts{1, 2}, crowd(3), []spot{{1, 1}, {2, 1}}},
		{"from the second one", api.Place{Round: 1, From: 1}, api.Counts{2, 3}, crowd(3), []spot{{1, 1}, {2, 0}, {2, 1}, {3, 1}}},
		{"from its slot 1 too", api.Place{Round: 1, From: 1, Slot: 1}, api.Counts{2, 3}, crowd(3), []spot{{2, 0}, {2, 1}, {3, 1}}},
		{"from the last one", api.Place{Round: 3, From: 1}, api.Counts{2, 3}, crowd(3), []spot{{3, 1}}},
		{"from behind the last one", api.Place{Round: 3, From: 1, Slot: 1}, api.Counts{2, 3}, crowd(3), nil},
		{"from a round above most", api.Place{Round: 4}, api.Counts{2, 3}, crowd(3), nil},
		{"from a place that is not there", api.Place{Round: 3, From: 0, Slot: 1}, api.Counts{2, 3}, crowd(3), []spot{{3, 1}}},
		{"from who is no member", api.Place{Round: 2, From: 1}, api.Counts{2, 3, 2}, crowd(5), []spot{{2, 2}}},
		{"from the round 0, far behind in it", api.Place{Round: 0, From: 7, Slot: 1}, api.Counts{1}, crowd(129), []spot{{1, 0}}},
		{"no round 0", api.Place{}, api.Counts{}, crowd(255), nil},
		{"the last round", api.Place{Round: most32, From: 6, Slot: 1}, all(most32), crowd(255), []spot{{most32, 7}}},
		{"none behind the last round", api.Place{Round: most32, From: 7, Slot: 1}, all(most32), crowd(255), nil},
		{"into the last round", api.Place{Round: most32 - 1, From: 1, Slot: 1}, api.Counts{most32, most32}, crowd(3), []spot{{most32, 0}, {most32, 1}}},
		{"no members", api.Place{}, all(most32), crowd(0), nil},
		{"unlike ends", api.Place{Round: 2, From: 1}, api.Counts{5, 1, 2, 3}, crowd(15), []spot{{2, 2}, {2, 3}, {3, 0}, {3, 3}, {4, 0}, {5, 0}}},
	} {
		if got := agreeRest(t, c.given, c.most, c.m); !slices.Equal(got, placesOf(c.want)) {
			t.Errorf("%s: %v", c.name, got)
		}
	}
}

// P11.2: of one member, 99, 100 and 101 that are left, from slot 0 and slot 1.
func TestRestOfOne(t *testing.T) {
	for _, at := range some {
		for _, most := range []uint32{101, 1000, most32 - 1, most32} {
			for many, want := range map[uint32]int{0: 0, 1: 1, 99: 99, 100: 100, 101: 100, most: 100} {
				given := api.Place{Round: most - many, From: at, Slot: 1}
				got := agreeRest(t, given, but(api.Counts{}, at, most), crowd(1<<at))
				if len(got) != want {
					t.Fatalf("from %v up to %d: %d of them", given, most, len(got))
				}
				given.Slot = 0
				if got := agreeRest(t, given, but(api.Counts{}, at, most), crowd(1<<at)); len(got) > 0 && got[0].Round != max(1, given.Round) {
					t.Errorf("from %v up to %d: %v", given, most, got)
				}
			}
		}
	}
}

// P11.2: places at all edges, and where members' rounds end unlike.
func TestRestEdges(t *testing.T) {
	for _, choice := range choices {
		m := crowd(choice)
		for _, most := range []uint32{0, 1, 60, 105, most32 - 1, most32} {
			unlike := all(most)
			for daemon := range unlike {
				unlike[daemon] = fit(int64(most) - 7*int64(daemon%3))
			}
			rounds := []int64{0, 1, 2, int64(most) - 101, int64(most) - 100, int64(most) - 99, int64(most) - 13, int64(most) - 12, int64(most) - 1, int64(most), int64(most) + 1, most32 - 1, most32}
			for _, r := range rounds {
				for from := range api.Daemons {
					for _, slot := range []int{0, 1} {
						given := api.Place{Round: fit(r), From: from, Slot: slot}
						agreeRest(t, given, all(most), m)
						agreeRest(t, given, unlike, m)
					}
				}
			}
		}
	}
}

// P11.2: 99, 100 and 101 are left of all eight together.
func TestRestBound(t *testing.T) {
	for _, last := range []uint32{13, 70, most32} {
		for from := range api.Daemons {
			for slot := range api.Slots {
				given := api.Place{Round: last - 12, From: from, Slot: slot}
				whole := 13*8 - from - slot
				if got := agreeRest(t, given, all(last), crowd(255)); len(got) != min(100, whole) {
					t.Errorf("from %v up to %d: %d of them", given, last, len(got))
				}
			}
		}
	}
}

// P11.2, R1: a place whose daemon is none, or whose slot is none, stands where
// the order puts it.
func TestRestWrong(t *testing.T) {
	for _, choice := range choices {
		m := crowd(choice)
		for _, most := range []uint32{0, 1, 9, most32} {
			for _, r := range []uint32{0, 1, 8, 9, 10, most32 - 1, most32} {
				for _, slot := range slots {
					for _, from := range strangers {
						agreeRest(t, api.Place{Round: r, From: from, Slot: slot}, all(most), m)
					}
					for from := range api.Daemons {
						agreeRest(t, api.Place{Round: r, From: from, Slot: slot}, all(most), m)
					}
				}
			}
		}
	}
	whole := []api.Place{{Round: 2, From: 0}, {Round: 2, From: 7}, {Round: 3, From: 0}, {Round: 3, From: 7}}
	for given, want := range map[api.Place]int{
		{Round: 2, From: -1, Slot: 1}:                        0,
		{Round: 2, From: math.MinInt, Slot: math.MaxInt}:     0,
		{Round: 2, From: 8, Slot: -1}:                        2,
		{Round: 2, From: math.MaxInt, Slot: math.MinInt}:     2,
		{Round: 2, From: 0, Slot: -1}:                        0,
		{Round: 2, From: 0, Slot: math.MinInt}:               0,
		{Round: 2, From: 0, Slot: 2}:                         1,
		{Round: 2, From: 0, Slot: math.MaxInt}:               1,
		{Round: 2, From: 3, Slot: math.MinInt}:               1,
		{Round: 2, From: 7, Slot: 2}:                         2,
		{Round: 3, From: math.MaxInt, Slot: math.MinInt}:     4,
		{Round: most32, From: math.MaxInt, Slot: 0}:          4,
		{Round: most32, From: math.MinInt, Slot: -1}:         4,
		{Round: 1, From: math.MaxInt, Slot: math.MaxInt}:     0,
		{Round: 1 << 31, From: math.MinInt, Slot: 1<<32 - 1}: 4,
	} {
		if got := cut.Rest(given, all(3), crowd(129)); !slices.Equal(got, whole[want:]) {
			t.Errorf("Rest from %v: %v", given, got)
		}
	}
}

// ends asks that a call ends.
func ends(t *testing.T, call func()) {
	t.Helper()
	done := make(chan struct{})
	go func() {
		defer close(done)
		call()
	}()
	select {
	case <-done:
	case <-time.After(time.Minute):
		t.Fatal("a call does not end")
	}
}

// P1, R1: each call ends, also where counts lie as far apart as they can.
func TestEnds(t *testing.T) {
	for _, choice := range choices {
		m := crowd(choice)
		for _, low := range []api.Counts{{}, all(1), all(most32 - 1), all(most32), {0, most32, 0, most32, 0, most32, 0, most32}} {
			for _, high := range []api.Counts{{}, all(most32), {most32, 0, most32, 0, most32, 0, most32, 0}, {7: most32}} {
				ends(t, func() {
					cut.Union(low, high)
					cut.Within(low, high)
					if got := cut.Missing(low, high, m); len(got) > 100 {
						t.Errorf("Missing: %d", len(got))
					}
				})
				for _, from := range append([]int{0, 7}, strangers...) {
					for _, slot := range slots {
						ends(t, func() {
							for daemon, n := range low {
								given := api.Place{Round: n, From: from + daemon%2, Slot: slot}
								if got := cut.Rest(given, high, m); len(got) > 100 {
									t.Errorf("Rest: %d", len(got))
								}
							}
						})
					}
				}
			}
		}
	}
}

// R4: answers share no memory with one another, nor with the room behind them.
func TestOwnMemory(t *testing.T) {
	for _, many := range []uint32{1, 2, 3, 5, 12, 13, 1000} {
		calls := []func() []api.Place{
			func() []api.Place { return cut.Missing(api.Counts{}, all(many), crowd(255)) },
			func() []api.Place { return cut.Missing(api.Counts{}, all(many), crowd(1)) },
			func() []api.Place { return cut.Rest(api.Place{}, all(many), crowd(255)) },
			func() []api.Place { return cut.Rest(api.Place{Round: 1}, all(many), crowd(128)) },
		}
		var lists, were [][]api.Place
		for range 2 {
			for _, call := range calls {
				l := call()
				lists, were = append(lists, l), append(were, slices.Clone(l))
			}
		}
		for i, l := range lists {
			if !slices.Equal(l, were[i]) {
				t.Fatalf("answer %d became %v", i, l)
			}
			for k := range l[:cap(l)] {
				l[:cap(l)][k] = api.Place{Round: 77, From: 7, Slot: 7}
			}
		}
		for i, call := range calls {
			if !slices.Equal(call(), were[i]) {
				t.Errorf("answer %d is not what it was", i)
			}
		}
	}
}

// R4: Union does not touch the list that it is given, with the room behind it,
// and its answer does not change with it.
func TestUnionLeavesItsList(t *testing.T) {
	l := []api.Counts{{1, 5}, {2, 2}, {3: 9}, all(6), all(7)}
	was := slices.Clone(l)
	u := cut.Union(l[:3]...)
	if !slices.Equal(l, was) {
		t.Errorf("the list became %v", l)
	}
	for i := range l {
		l[i] = all(8)
	}
	if u != (api.Counts{2, 5, 0, 9}) {
		t.Errorf("Union: %v", u)
	}
}

// drawnCount is a count near a base, or an edge.
func drawnCount(r *rand.Rand, base int64) uint32 {
	if r.Intn(12) == 0 {
		return edges[r.Intn(len(edges))]
	}
	return fit(base + int64(r.Intn(40)) - 10)
}

// drawnBase is where drawn counts lie.
func drawnBase(r *rand.Rand) int64 {
	return []int64{0, 5, 1000, 1 << 31, most32 - 25, most32}[r.Intn(6)]
}

// drawn is drawn counts near a base.
func drawn(r *rand.Rand, base int64) api.Counts {
	var c api.Counts
	for daemon := range c {
		c[daemon] = drawnCount(r, base)
	}
	return c
}

// P11.1, P11.2: drawn counts, members and places.
func TestDrawn(t *testing.T) {
	r := rand.New(rand.NewSource(111))
	for range 5000 {
		base := drawnBase(r)
		c, most, m := drawn(r, base), drawn(r, base+10), crowd(r.Intn(256)|r.Intn(256))
		agreeMissing(t, c, most, m)
		agreeWithin(t, c, most)
		agreeUnion(t, c, most, drawn(r, base))
		given := api.Place{Round: drawnCount(r, base), From: r.Intn(10) - 1, Slot: r.Intn(4) - 1}
		agreeRest(t, given, most, m)
	}
}

// P11.3: all are within the union, it is within whatever they all are within,
// and it is the same in whatever order, however often, they come.
func TestUnionIsLeast(t *testing.T) {
	r := rand.New(rand.NewSource(113))
	for range 1500 {
		base := drawnBase(r)
		var l []api.Counts
		for range r.Intn(6) {
			l = append(l, drawn(r, base))
		}
		u := agreeUnion(t, l...)
		holdsAll(t, l, u)
		for at := range u {
			if u[at] > 0 && withinAll(l, but(u, at, u[at]-1)) {
				t.Fatalf("Union(%v) is %v, but daemon %d needs less", l, u, at)
			}
		}
		if above := drawn(r, base+30); withinAll(l, above) != cut.Within(u, above) {
			t.Fatalf("Union(%v) is %v, which is not the least beside %v", l, u, above)
		}
		again := slices.Clone(l)
		for range r.Intn(8) {
			if len(l) > 0 {
				again = append(again, l[r.Intn(len(l))])
			}
		}
		r.Shuffle(len(again), func(i, j int) { again[i], again[j] = again[j], again[i] })
		if got := agreeUnion(t, again...); got != u {
			t.Fatalf("Union(%v) is %v, Union(%v) is %v", l, u, again, got)
		}
		inParts(t, r, again, u)
	}
}

// holdsAll asks that each one is within the union.
func holdsAll(t *testing.T, l []api.Counts, u api.Counts) {
	t.Helper()
	for _, c := range l {
		if !agreeWithin(t, c, u) {
			t.Fatalf("%v is not within the union %v", c, u)
		}
	}
}

// withinAll tells whether all are within u.
func withinAll(l []api.Counts, u api.Counts) bool {
	return !slices.ContainsFunc(l, func(c api.Counts) bool { return !cut.Within(c, u) })
}

// inParts asks that the union of unions of parts is the union of all.
func inParts(t *testing.T, r *rand.Rand, l []api.Counts, u api.Counts) {
	t.Helper()
	k := r.Intn(len(l) + 1)
	a, b := cut.Union(l[:k]...), cut.Union(l[k:]...)
	if got := cut.Union(a, b); got != u {
		t.Fatalf("Union of %v and %v is %v, not %v", a, b, got, u)
	}
	if got := cut.Union(u, u, a, b); got != u {
		t.Fatalf("Union of %v and its parts is %v", u, got)
	}
}

// receive receives what is missing up to u, time and again, until nothing is;
// each frame must be the next one of its daemon.
func receive(t *testing.T, c, u api.Counts, m api.Members) api.Counts {
	t.Helper()
	left := 0
	for daemon, n := range u {
		if m[daemon] != 0 && n > c[daemon] {
			left += int(n - c[daemon])
		}
	}
	for {
		l := cut.Missing(c, u, m)
		if len(l) != min(left, 100) {
			t.Fatalf("where %d are missing there are told %d", left, len(l))
		}
		if len(l) == 0 {
			return c
		}
		for _, p := range l {
			if m[p.From] == 0 || uint64(p.Round) != uint64(c[p.From])+1 {
				t.Fatalf("behind %v comes %v, members %v", c, p, m)
			}
			c[p.From]++
		}
		left -= len(l)
	}
}

// P11.3: who receives what is missing, up to a union, has the union.
func TestReceives(t *testing.T) {
	r := rand.New(rand.NewSource(114))
	for range 500 {
		base := []int64{0, 5, 1000, 1 << 31, most32 - 60, most32}[r.Intn(6)]
		var l []api.Counts
		for range 1 + r.Intn(5) {
			var c api.Counts
			for daemon := range c {
				c[daemon] = fit(base + int64(r.Intn(60)))
			}
			l = append(l, c)
		}
		u := cut.Union(l...)
		for _, c := range l {
			if got := receive(t, c, u, crowd(255)); got != u {
				t.Fatalf("who had %v has %v, not %v", c, got, u)
			}
			m := crowd(r.Intn(256))
			got := receive(t, c, u, m)
			for daemon := range got {
				if m[daemon] != 0 && got[daemon] != u[daemon] || m[daemon] == 0 && got[daemon] != c[daemon] {
					t.Fatalf("members %v: who had %v has %v, not %v", m, c, got, u)
				}
			}
		}
	}
}

// whole is an account of all frames of members above a base, up to u, in order.
func whole(m, u [8]uint32, base int64) []api.Place {
	var low [8]int64
	for daemon := range low {
		low[daemon] = base + 1
	}
	return placesOf(row(m, low, wide(u), 10000))
}

// walk is all that is left from a place on, by as many calls as it takes.
func walk(t *testing.T, given api.Place, u api.Counts, m api.Members) []api.Place {
	t.Helper()
	var places []api.Place
	for {
		l := agreeRest(t, given, u, m)
		places = append(places, l...)
		if len(l) < 100 {
			return places
		}
		given = l[len(l)-1]
		given.Slot = 1
	}
}

// P11.3: two with one union deliver in one order: what each has delivered as
// agreed, and the rest from where it stands, are the same frames. They have not
// come to the last round yet, at which round.Position stays.
func TestOneOrder(t *testing.T) {
	r := rand.New(rand.NewSource(115))
	for range 400 {
		base := []int64{0, 0, 40, most32 - 41}[r.Intn(4)]
		m := crowd(1 + r.Intn(255))
		far := 1 + r.Intn(40)
		pair := [2]api.Counts{}
		for i := range pair {
			for daemon := range pair[i] {
				pair[i][daemon] = fit(base + int64(r.Intn(far+1)))
			}
		}
		u := cut.Union(pair[0], pair[1])
		want := whole(m, u, base)
		for _, c := range pair {
			stands := round.Position(c, m)
			var got []api.Place
			for _, p := range want {
				if round.Before(p, stands) {
					got = append(got, p)
				}
			}
			if got = append(got, walk(t, stands, u, m)...); !slices.Equal(got, want) {
				t.Fatalf("counts %v, members %v, union %v: %v, not %v", c, m, u, got, want)
			}
		}
	}
}

// P11.3: the rest from any place is the end of the rest from any earlier one,
// wherever one of two stands in it.
func TestRestFromAnywhere(t *testing.T) {
	r := rand.New(rand.NewSource(116))
	for range 300 {
		base := []int64{0, 3, most32 - 9}[r.Intn(3)]
		m := crowd(1 + r.Intn(255))
		var u api.Counts
		for daemon := range u {
			u[daemon] = fit(base + int64(r.Intn(10)))
		}
		want := whole(m, u, base)
		for done := range len(want) + 1 {
			given := api.Place{Round: fit(base + 1), From: -1}
			if done > 0 {
				given = want[done-1]
				given.Slot = 1
			}
			if got := walk(t, given, u, m); !slices.Equal(got, want[done:]) {
				t.Fatalf("union %v, members %v: from %v on %v, not %v", u, m, given, got, want[done:])
			}
			if done < len(want) && !slices.Equal(walk(t, want[done], u, m), want[done:]) {
				t.Fatalf("union %v, members %v: from %v on", u, m, want[done])
			}
		}
	}
}
