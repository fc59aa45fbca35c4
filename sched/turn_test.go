package sched_test

import (
	"fmt"
	"math/rand"
	"slices"
	"testing"

	"congress/api"
	"congress/sched"
)

// P19.1: whose turn it is, behind a last of each kind.
func TestTurn(t *testing.T) {
	mixed := []uint64{7, 3, 5, 7, 3, 9, 5}
	for name, x := range map[string]struct {
		given []uint64
		last  uint64
		want  int
	}{
		"below all":                        {mixed, 2, 1},
		"0":                                {mixed, 0, 1},
		"the least one":                    {mixed, 3, 2},
		"between two":                      {mixed, 4, 2},
		"one between":                      {mixed, 5, 0},
		"between two others":               {mixed, 6, 0},
		"the one ahead of the greatest":    {mixed, 7, 5},
		"between the last two":             {mixed, 8, 5},
		"the greatest one":                 {mixed, 9, 1},
		"above all":                        {mixed, 10, 1},
		"the greatest that there is":       {mixed, most, 1},
		"rising, below all":                {[]uint64{1, 2, 3}, 0, 0},
		"rising, the greatest":             {[]uint64{1, 2, 3}, 3, 0},
		"falling, below all":               {[]uint64{3, 2, 1}, 0, 2},
		"falling, one between":             {[]uint64{3, 2, 1}, 2, 0},
		"falling, the greatest":            {[]uint64{3, 2, 1}, 3, 2},
		"one, below it":                    {[]uint64{4}, 3, 0},
		"one, itself":                      {[]uint64{4}, 4, 0},
		"one, above it":                    {[]uint64{4}, 5, 0},
		"one session's, below it":          {[]uint64{4, 4, 4}, 3, 0},
		"one session's, itself":            {[]uint64{4, 4, 4}, 4, 0},
		"one session's, above it":          {[]uint64{4, 4, 4}, 5, 0},
		"0 waits, behind 0":                {[]uint64{0, 1}, 0, 1},
		"0 waits, behind 1":                {[]uint64{1, 0}, 1, 1},
		"0 waits, behind the greatest":     {[]uint64{1, 0}, most, 1},
		"0 alone, behind 0":                {[]uint64{0, 0}, 0, 0},
		"the greatest, behind 0":           {[]uint64{0, most}, 0, 1},
		"the greatest, behind itself":      {[]uint64{most, 0}, most, 1},
		"the greatest, behind one below":   {[]uint64{0, most}, most - 1, 1},
		"the greatest alone":               {[]uint64{most, most}, most, 0},
		"the greatest two":                 {[]uint64{most, most - 1}, most, 1},
		"65535 and 65536, behind 0":        {[]uint64{65536, 65535}, 0, 1},
		"65535 and 65536, behind 65535":    {[]uint64{65535, 65536}, 65535, 1},
		"65535 and 65536, behind 65536":    {[]uint64{65536, 65535}, 65536, 1},
		"around the middle, behind 0":      {[]uint64{1 << 63, 1<<63 - 1}, 0, 1},
		"around the middle, behind itself": {[]uint64{1<<63 - 1, 1 << 63}, 1<<63 - 1, 1},
		"the same in some bits":            {[]uint64{1<<32 + 1, 1 << 32, 2}, 1, 2},
		"the chapter's, behind 0":          {[]uint64{1, 1, 1, 2}, 0, 0},
		"the chapter's, behind 1":          {[]uint64{1, 1, 1, 2}, 1, 3},
		"the chapter's, behind 2":          {[]uint64{1, 1, 1, 2}, 2, 0},
	} {
		if at, ok := agreeTurn(t, of(x.given...), x.last); at != x.want || !ok {
			t.Errorf("%s: %d, %v, not %d", name, at, ok, x.want)
		}
	}
}

// P19.1: a session's entries at the first place, between, and at the last place,
// among others ahead of it and behind it: the first of them is told.
func TestTurnPlaces(t *testing.T) {
	const n, mine = 7, 50
	for _, others := range [][]uint64{{60}, {20}, {60, 70}, {20, 60}, {60, 20, 49}, {51, most, 0, 49}} {
		for set := 1; set < 1<<n; set++ {
			l := make(line, n)
			first := n
			for i := range l {
				l[i] = slip{others[i%len(others)], uint64(i)}
				if set>>i&1 == 1 {
					l[i].session = mine
					first = min(first, i)
				}
			}
			if at, ok := agreeTurn(t, l, mine-1); at != first || !ok {
				t.Fatalf("Turn of %s behind %d is %d, %v, not %d", l, mine-1, at, ok, first)
			}
		}
	}
}

// P19.1: any two sessions, behind any last.
func TestTurnPairs(t *testing.T) {
	for _, a := range oddSessions {
		for _, b := range oddSessions {
			for _, last := range oddSessions {
				at, ok := agreeTurn(t, of(a, b), last)
				ahead := a <= b
				if (a > last) != (b > last) {
					ahead = a > last
				}
				if !ok || at == 0 != ahead {
					t.Fatalf("Turn of %d and %d behind %d is %d, %v", a, b, last, at, ok)
				}
			}
		}
	}
}

// P19.1: all lines of up to five slips, of four sessions, behind each last.
func TestTurnAll(t *testing.T) {
	for _, sessions := range [][]uint64{{2, 4, 6, 8}, {0, 1, most - 1, most}} {
		lasts := slices.Concat(oddSessions[:4], []uint64{3, 4, 5, 6, 8, 9, most - 2, most - 1, most})
		for n := range 6 {
			every(n, sessions, func(l line) {
				for _, last := range lasts {
					agreeTurn(t, l, last)
				}
			})
		}
	}
}

// P19.1: what an entry holds beside its session does not count.
func TestTurnRest(t *testing.T) {
	for _, x := range oddInts {
		for _, number := range oddSessions {
			for _, text := range []string{"", "x", "sixteen bytes....", "\x00\xff"} {
				a := api.Entry{Kind: x, Service: -x, Group: x, Session: 6, Number: number, Text: text}
				b := api.Entry{Kind: -x, Service: x, Group: -x, Session: 5, Number: ^number, Text: text + "!"}
				name := fmt.Sprintf("%#v, %#v", a, b)
				for _, list := range [][]api.Entry{{a, b}, {{Session: 6}, {Session: 5}}} {
					for last, want := range map[uint64]int{4: 1, 5: 0, 6: 1} {
						if at, ok := sched.Turn(list, last); at != want || !ok {
							t.Fatalf("%s: Turn behind %d is %d, %v", name, last, at, ok)
						}
					}
				}
				if s := sched.Sessions([]api.Entry{a, b}); !slices.Equal(s, []uint64{5, 6}) {
					t.Fatalf("%s: Sessions is %v", name, s)
				}
				taken, rest, last := sched.Fill([]api.Entry{a, b, a}, 4, 2)
				if !slices.Equal(taken, []api.Entry{b, a}) || !slices.Equal(rest, []api.Entry{a}) || last != 6 {
					t.Fatalf("%s: Fill is %v, %v, %d", name, taken, rest, last)
				}
			}
		}
	}
}

// P19.1: drawn lines, behind drawn lasts; it is the first place of its session,
// which is one of Sessions.
func TestTurnDrawn(t *testing.T) {
	r := rand.New(rand.NewSource(191))
	came := map[string]int{}
	for range 30000 {
		l := drawnLine(r, []int{2, 5, 20}[r.Intn(3)])
		last := drawnLast(r, l)
		sessions := agreeSessions(t, l)
		at, ok := agreeTurn(t, l, last)
		if !ok {
			came["none"]++
			continue
		}
		if !slices.Contains(sessions, l[at].session) {
			t.Fatalf("Sessions of %s is %v", l, sessions)
		}
		came[fmt.Sprintf("above %v, again %v, at %v", l[at].session > last, l[at].session == last, at > 0)]++
	}
	for _, what := range []string{"none", "above true, again false, at false", "above true, again false, at true", "above false, again false, at false", "above false, again false, at true", "above false, again true, at false"} {
		if came[what] < 200 {
			t.Errorf("%s came %d times: %v", what, came[what], came)
		}
	}
}
