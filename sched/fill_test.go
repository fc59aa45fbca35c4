package sched_test

import (
	"fmt"
	"math/rand"
	"slices"
	"testing"

	"congress/api"
	"congress/sched"
)

// The chapter's example.
func TestExample(t *testing.T) {
	w := of(1, 1, 1, 2)
	taken, rest, last := agreeFill(t, w, 0, 2)
	if !taken.same(line{w[0], w[3]}) || !rest.same(line{w[1], w[2]}) || last != 2 {
		t.Fatalf("Fill of 2 is %s, %s, %d", taken, rest, last)
	}
	if at, ok := agreeTurn(t, rest, last); at != 0 || !ok {
		t.Fatalf("then it is the turn of %d, %v", at, ok)
	}
	then, rest, last := agreeFill(t, rest, last, 1)
	if !then.same(line{w[1]}) || !rest.same(line{w[2]}) || last != 1 {
		t.Fatalf("then Fill of 1 is %s, %s, %d", then, rest, last)
	}
}

// P19.2: what is taken, what still waits, and last: by the slips' marks, which
// are their places.
func TestFill(t *testing.T) {
	mixed := []uint64{7, 3, 5, 7, 3, 9, 5}
	for name, x := range map[string]struct {
		given       []uint64
		last        uint64
		slots       int
		taken, rest []uint64
		then        uint64
	}{
		"nothing, no slot":                 {nil, 5, 0, nil, nil, 5},
		"nothing, two slots":               {nil, 5, 2, nil, nil, 5},
		"one, no slot":                     {[]uint64{4}, 5, 0, nil, []uint64{0}, 5},
		"one, fewer than no slot":          {[]uint64{4}, 5, -1, nil, []uint64{0}, 5},
		"one, one slot":                    {[]uint64{4}, 5, 1, []uint64{0}, nil, 4},
		"one, two slots":                   {[]uint64{4}, 5, 2, []uint64{0}, nil, 4},
		"one session's, two slots":         {[]uint64{4, 4, 4}, 4, 2, []uint64{0, 1}, []uint64{2}, 4},
		"one session's, three slots":       {[]uint64{4, 4, 4}, 9, 3, []uint64{0, 1, 2}, nil, 4},
		"mixed, no slot":                   {mixed, 5, 0, nil, []uint64{0, 1, 2, 3, 4, 5, 6}, 5},
		"mixed, one slot":                  {mixed, 5, 1, []uint64{0}, []uint64{1, 2, 3, 4, 5, 6}, 7},
		"mixed, below all, one":            {mixed, 0, 1, []uint64{1}, []uint64{0, 2, 3, 4, 5, 6}, 3},
		"mixed, below all, two":            {mixed, 2, 2, []uint64{1, 2}, []uint64{0, 3, 4, 5, 6}, 5},
		"mixed, above all, three":          {mixed, 10, 3, []uint64{1, 2, 0}, []uint64{3, 4, 5, 6}, 7},
		"mixed, one of them, four":         {mixed, 7, 4, []uint64{5, 1, 2, 0}, []uint64{3, 4, 6}, 7},
		"mixed, one of them, six":          {mixed, 7, 6, []uint64{5, 1, 2, 0, 4, 6}, []uint64{3}, 5},
		"mixed, between two, all":          {mixed, 8, 7, []uint64{5, 1, 2, 0, 4, 6, 3}, nil, 7},
		"mixed, the greatest, more":        {mixed, most, 8, []uint64{1, 2, 0, 5, 4, 6, 3}, nil, 7},
		"the edges, behind 0":              {[]uint64{most, 0, 65536, 65535, 0}, 0, 3, []uint64{3, 2, 0}, []uint64{1, 4}, most},
		"the edges, behind the greatest":   {[]uint64{most, 0, 65536, 65535, 0}, most, 5, []uint64{1, 3, 2, 0, 4}, nil, 0},
		"falling, as many as sessions":     {[]uint64{3, 2, 1}, 1, 3, []uint64{1, 0, 2}, nil, 1},
		"two by turns, behind the greater": {[]uint64{1, 2, 1, 2, 1, 2}, 2, 3, []uint64{0, 1, 2}, []uint64{3, 4, 5}, 1},
		"one has many, one has one":        {[]uint64{8, 8, 8, 8, 3}, 3, 3, []uint64{0, 4, 1}, []uint64{2, 3}, 8},
	} {
		taken, rest, then := agreeFill(t, of(x.given...), x.last, x.slots)
		if !slices.Equal(taken.marks(), x.taken) || !slices.Equal(rest.marks(), x.rest) || then != x.then {
			t.Errorf("%s: %s, %s, %d, not %v, %v, %d", name, taken, rest, then, x.taken, x.rest, x.then)
		}
	}
}

// long is lines of n slips, of unlike sessions.
func long(n int) []line {
	kinds := make([]line, 7)
	for i := range n {
		mark := uint64(i)
		rising := uint64(100 + 10*i)
		for k, s := range []uint64{4, rising, 5000 - rising, uint64(i * 7 % 5 * 1000), 100, 100, uint64(100 + i%2)} {
			kinds[k] = append(kinds[k], slip{s, mark})
		}
	}
	// One session has all but one, and another one has that: at the last place,
	// or at the first one.
	if n > 0 {
		kinds[4][n-1].session = 90
		kinds[5][0].session = 110
	}
	return kinds
}

// P19.2: each edge of the slots, with fewer entries than these, as many, and
// more, behind a last below all, above all, between, and one of them.
func TestFillSlots(t *testing.T) {
	lasts := []uint64{0, 4, 90, 100, 101, 105, 110, 1000, 4900, 9999, most}
	for _, n := range []int{0, 1, 2, 3, 14, 15, 16, 17, 18, 33, 40} {
		for _, l := range long(n) {
			for _, last := range lasts {
				for _, slots := range oddSlots {
					taken, rest, then := agreeFill(t, l, last, slots)
					if want := max(min(slots, 16, n), 0); len(taken) != want || len(rest) != n-want {
						t.Fatalf("Fill of %d of %s is %s, %s", slots, l, taken, rest)
					}
					if len(taken) == 0 && then != last || len(taken) > 0 && then != taken[len(taken)-1].session {
						t.Fatalf("Fill of %d of %s behind %d is %s, and last %d", slots, l, last, taken, then)
					}
				}
			}
		}
	}
}

// P19.2: 16 times at most: of 17 entries one still waits, whatever the slots.
func TestFillSixteen(t *testing.T) {
	for _, slots := range []int{16, 17, 18, 32, 1 << 32, mostInt} {
		var sessions []uint64
		for i := range 17 {
			sessions = append(sessions, uint64(170-10*i))
		}
		l := of(sessions...)
		taken, rest, last := agreeFill(t, l, 0, slots)
		want := slices.Clone(l[1:])
		slices.Reverse(want)
		if !taken.same(want) || !rest.same(l[:1]) || last != 160 {
			t.Errorf("Fill of %d is %s, %s, %d", slots, taken, rest, last)
		}
		taken, rest, last = agreeFill(t, l[1:], 0, slots)
		if !taken.same(want) || len(rest) != 0 || last != 160 {
			t.Errorf("Fill of %d of 16 is %s, %s, %d", slots, taken, rest, last)
		}
	}
	l := of(make([]uint64, 17)...)
	if taken, rest, last := agreeFill(t, l, 9, 15); !taken.same(l[:15]) || !rest.same(l[15:]) || last != 0 {
		t.Errorf("Fill of 15 is %s, %s, %d", taken, rest, last)
	}
}

// P19.2: one session has many, and another one has one, wherever that stands: it
// is taken first, or second.
func TestFillOneOther(t *testing.T) {
	for _, n := range []int{2, 15, 16, 17, 40} {
		for at := range n {
			for _, other := range []uint64{7, 9, 0, most} {
				l := make(line, n)
				for i := range l {
					l[i] = slip{8, uint64(i)}
				}
				l[at].session = other
				taken, _, _ := agreeFill(t, l, 8, 2)
				if taken[0] != l[at] || taken[1].session != 8 {
					t.Fatalf("Fill of %s behind 8 is %s", l, taken)
				}
				taken, _, _ = agreeFill(t, l, other, 2)
				if taken[1] != l[at] || taken[0].session != 8 {
					t.Fatalf("Fill of %s behind %d is %s", l, other, taken)
				}
			}
		}
	}
}

// P19.2: all lines of up to five slips, of three sessions, behind each last, of
// each number of slots.
func TestFillAll(t *testing.T) {
	for _, sessions := range [][]uint64{{2, 4, 6}, {0, 65536, most}} {
		for n := range 6 {
			every(n, sessions, func(l line) {
				agreeAll(t, l, []uint64{0, 2, 3, 4, 6, 65536, most}, []int{-1, 0, 1, 2, 3, 4, 5, 6, 16})
			})
		}
	}
}

// P19.2: an entry that stands more than once is taken as often.
func TestFillEqual(t *testing.T) {
	a, b := slip{5, 9}, slip{3, 9}
	l := line{a, a, b, a, b}
	taken, rest, last := agreeFill(t, l, 3, 3)
	if !taken.same(line{a, b, a}) || !rest.same(line{a, b}) || last != 5 {
		t.Fatalf("Fill is %s, %s, %d", taken, rest, last)
	}
	zero := make([]api.Entry, 20)
	one, other, last := sched.Fill(zero, 77, 20)
	if !slices.Equal(one, zero[:16]) || !slices.Equal(other, zero[:4]) || last != 0 {
		t.Fatalf("Fill of zero entries is %v, %v, %d", one, other, last)
	}
}

// P19.2: Fill is Turn, as often as there are slots.
func TestFillIsTurn(t *testing.T) {
	r := rand.New(rand.NewSource(192))
	for range 3000 {
		l := drawnLine(r, 30)
		last := drawnLast(r, l)
		rest, now := listOf(l), last
		var taken []api.Entry
		for slots := range 17 {
			a, b, c := sched.Fill(listOf(l), last, slots)
			if !slices.Equal(a, taken) || !slices.Equal(b, rest) || c != now {
				t.Fatalf("Fill of %d of %s behind %d is %v, %v, %d", slots, l, last, a, b, c)
			}
			at, ok := sched.Turn(rest, now)
			if !ok {
				break
			}
			taken, now = append(taken, rest[at]), rest[at].Session
			rest = slices.Concat(rest[:at], rest[at+1:])
		}
	}
}

// P19.2: two Fills, one behind the other, are one of as many slots as both have.
func TestFillTwice(t *testing.T) {
	r := rand.New(rand.NewSource(193))
	for range 5000 {
		l := drawnLine(r, 30)
		last := drawnLast(r, l)
		a := r.Intn(17)
		b := r.Intn(17 - a)
		first, rest, then := agreeFill(t, l, last, a)
		second, rest, then := agreeFill(t, rest, then, b)
		taken, left, end := agreeFill(t, l, last, a+b)
		if !slices.Concat(first, second).same(taken) || !rest.same(left) || then != end {
			t.Fatalf("Fill of %d and of %d of %s behind %d is %s and %s, and of both %s", a, b, l, last, first, second, taken)
		}
	}
}

// P19.2: drawn lines, lasts and slots.
func TestFillDrawn(t *testing.T) {
	r := rand.New(rand.NewSource(194))
	came := map[string]int{}
	for range 10000 {
		l := drawnLine(r, []int{3, 10, 40}[r.Intn(3)])
		last := drawnLast(r, l)
		slots := r.Intn(20) - 1
		if r.Intn(6) == 0 {
			slots = oddSlots[r.Intn(len(oddSlots))]
		}
		taken, rest, _ := agreeFill(t, l, last, slots)
		came[fmt.Sprintf("taken %v, rest %v", len(taken) > 0, len(rest) > 0)]++
		if len(taken) == 16 && len(rest) > 0 {
			came["sixteen"]++
		}
	}
	for _, what := range []string{"taken true, rest true", "taken true, rest false", "taken false, rest true", "taken false, rest false", "sixteen"} {
		if came[what] < 200 {
			t.Errorf("%s came %d times: %v", what, came[what], came)
		}
	}
}

// P19.2, R3, R4: what is done to one answer is seen in no other one, nor in what
// was given.
func TestFillTwoAnswers(t *testing.T) {
	for _, l := range []line{of(3, 7, 5, 7, 3), of(1), of(4, 4), of()} {
		for _, slots := range []int{-1, 0, 1, 3, 5, 16} {
			given := listOf(l)
			a, b, _ := sched.Fill(given, 5, slots)
			c, d, _ := sched.Fill(given, 5, slots)
			lists := [][]api.Entry{a, b, c, d}
			for i, list := range lists {
				var want []line
				for _, other := range lists[i+1:] {
					want = append(want, lineOf(t, other))
				}
				for j := range list[:cap(list)] {
					list[:cap(list)][j] = api.Entry{Kind: 77, Text: "77"}
				}
				for j, other := range lists[i+1:] {
					if !lineOf(t, other).same(want[j]) {
						t.Fatalf("Fill of %d of %s: another answer became %v", slots, l, other)
					}
				}
				untouched(t, "Fill", given, l)
			}
		}
	}
}

// P1: a long list of entries that may not be.
func TestLong(t *testing.T) {
	var mixed, one line
	for i := range 30000 {
		mixed = append(mixed, slip{uint64(i*7919%1000) << (i % 50), uint64(i)})
		one = append(one, slip{3, uint64(i)})
	}
	one[29999].session = 2
	ends(t, "a long list", func() {
		for _, l := range []line{mixed, one} {
			agreeAll(t, l, []uint64{0, 2, 3, 1 << 40, most}, []int{leastInt, 2, mostInt})
		}
	})
}
