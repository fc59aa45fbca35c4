package sched_test

import (
	"math/rand"
	"slices"
	"testing"

	"congress/api"
	"congress/sched"
)

// P19.1: the sessions that have entries, each once, rising.
func TestSessions(t *testing.T) {
	for name, x := range map[string]struct{ given, want []uint64 }{
		"none":                     {nil, nil},
		"one":                      {[]uint64{9}, []uint64{9}},
		"one, 0":                   {[]uint64{0}, []uint64{0}},
		"one, the greatest":        {[]uint64{most}, []uint64{most}},
		"all of one":               {[]uint64{4, 4, 4, 4, 4}, []uint64{4}},
		"all of 0":                 {[]uint64{0, 0, 0}, []uint64{0}},
		"all of the greatest":      {[]uint64{most, most, most}, []uint64{most}},
		"each its own, rising":     {[]uint64{1, 2, 5, 9}, []uint64{1, 2, 5, 9}},
		"each its own, falling":    {[]uint64{9, 5, 2, 1}, []uint64{1, 2, 5, 9}},
		"each its own, mixed":      {[]uint64{5, 1, 9, 2}, []uint64{1, 2, 5, 9}},
		"rising, some twice":       {[]uint64{1, 1, 2, 5, 5, 5, 9}, []uint64{1, 2, 5, 9}},
		"falling, some twice":      {[]uint64{9, 9, 5, 2, 2, 1}, []uint64{1, 2, 5, 9}},
		"mixed":                    {[]uint64{3, 7, 5, 7, 3}, []uint64{3, 5, 7}},
		"the first one again":      {[]uint64{2, 1, 3, 2}, []uint64{1, 2, 3}},
		"the edges, mixed":         {[]uint64{65536, most, 0, 65535, most, 0}, []uint64{0, 65535, 65536, most}},
		"the same in some bits":    {[]uint64{1<<32 + 1, 1, 1<<63 + 1, 65537, 257}, []uint64{1, 257, 65537, 1<<32 + 1, 1<<63 + 1}},
		"around the middle":        {[]uint64{1 << 63, 1<<63 - 1, 0, most}, []uint64{0, 1<<63 - 1, 1 << 63, most}},
		"more than may be":         {[]uint64{17, 16, 15, 14, 13, 12, 11, 10, 9, 8, 7, 6, 5, 4, 3, 2, 1, 17}, []uint64{1, 2, 3, 4, 5, 6, 7, 8, 9, 10, 11, 12, 13, 14, 15, 16, 17}},
		"the chapter's four, of 2": {[]uint64{1, 1, 1, 2}, []uint64{1, 2}},
	} {
		if got := agreeSessions(t, of(x.given...)); !slices.Equal(got, x.want) {
			t.Errorf("%s: %v, not %v", name, got, x.want)
		}
	}
}

// P19.1: any two sessions, each ahead of the other one, once and twice.
func TestSessionsPairs(t *testing.T) {
	for _, a := range oddSessions {
		for _, b := range oddSessions {
			want := []uint64{min(a, b), max(a, b)}
			if a == b {
				want = want[:1]
			}
			for _, given := range [][]uint64{{a, b}, {a, b, a}, {b, b, a, a}} {
				if got := agreeSessions(t, of(given...)); !slices.Equal(got, want) {
					t.Fatalf("Sessions of %v is %v", given, got)
				}
			}
		}
	}
}

// P19.1: lines with more sessions than a tenant may have, in drawn orders.
func TestSessionsMany(t *testing.T) {
	r := rand.New(rand.NewSource(190))
	for _, n := range []int{1, 2, 15, 16, 17, 64, 300} {
		for range 20 {
			var l line
			for i, p := range r.Perm(n) {
				l = append(l, slip{oddSessions[p%len(oddSessions)] + uint64(p), uint64(i)})
			}
			agreeSessions(t, slices.Concat(l, l[:n/2]))
		}
	}
}

// P19.1, R4: what is done to one answer is seen in no other one.
func TestSessionsTwoAnswers(t *testing.T) {
	given := listOf(of(3, 7, 5, 7, 3))
	one, other := sched.Sessions(given), sched.Sessions(given)
	for i := range one[:cap(one)] {
		one[:cap(one)][i] = 77
	}
	if !slices.Equal(other, []uint64{3, 5, 7}) || !slices.Equal(sched.Sessions(given), other) {
		t.Fatalf("another answer became %v", other)
	}
	untouched(t, "Sessions", given, of(3, 7, 5, 7, 3))
}

// P1, R5: nil and empty lists are the same, and each call ends without a panic.
func TestEmpty(t *testing.T) {
	full := listOf(of(1, 2, 3))
	for name, list := range map[string][]api.Entry{"nil": nil, "empty": {}, "empty with room": make([]api.Entry, 0, 9), "a list's beginning": full[:0], "a list's end": full[3:]} {
		ends(t, name, func() {
			if got := sched.Sessions(list); len(got) != 0 {
				t.Errorf("%s: Sessions is %v", name, got)
			}
			for _, last := range oddSessions {
				if at, ok := sched.Turn(list, last); at != 0 || ok {
					t.Errorf("%s: Turn behind %d is %d, %v", name, last, at, ok)
				}
				for _, slots := range oddSlots {
					if a, b, end := sched.Fill(list, last, slots); len(a) != 0 || len(b) != 0 || end != last {
						t.Errorf("%s: Fill of %d behind %d is %v, %v, %d", name, slots, last, a, b, end)
					}
				}
			}
		})
	}
	untouched(t, "all calls", full, of(1, 2, 3))
}
