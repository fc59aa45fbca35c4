package queue_test

import (
	"fmt"
	"math/rand"
	"slices"
	"testing"

	"congress/api"
	"congress/queue"
)

// few is a queue with room between its places: rounds 2, 4 and 6, of the daemons 1
// and 3, slots 1 and 3. Each number is where it stands.
func few() line {
	var l line
	for _, r := range []uint32{2, 4, 6} {
		for _, from := range []int{1, 3} {
			for _, slot := range []int{1, 3} {
				l = append(l, at(r, from, slot, send(agreed, uint64(100+len(l)))))
			}
		}
	}
	return l
}

// P22.1: one entry, wherever its place is: ahead of all, between two, behind all.
func TestAddOne(t *testing.T) {
	x := send(safe, 9)
	for name, c := range map[string]struct {
		given line
		from  int
		round uint32
		index int
	}{
		"to no queue":                       {nil, 3, 5, 0},
		"ahead of all, by the round":        {few(), 3, 1, 0},
		"ahead of all, by the daemon":       {few(), 0, 2, 0},
		"ahead of all, by the slot":         {few(), 1, 2, 0},
		"between two daemons":               {few(), 2, 2, 2},
		"ahead of a slot":                   {few(), 3, 2, 2},
		"behind a round's daemons":          {few(), 4, 2, 4},
		"between two rounds":                {few(), 3, 3, 4},
		"ahead of a round":                  {few(), 0, 4, 4},
		"ahead of a slot of a later round":  {few(), 1, 4, 4},
		"behind all, by the daemon":         {few(), 5, 6, 12},
		"behind all, by the round":          {few(), 0, 7, 12},
		"a greater round, a lesser daemon":  {line{at(1, 7, 1, x)}, 0, 2, 1},
		"a greater daemon, a lesser slot":   {line{at(1, 6, 1, x)}, 7, 1, 1},
		"a lesser round, a greater daemon":  {line{at(2, 0, 0, x)}, 7, 1, 0},
		"a lesser daemon, the same slot":    {line{at(2, 1, 0, x)}, 0, 2, 0},
		"round 0":                           {few(), 1, 0, 0},
		"the greatest round":                {few(), 1, mostRound, 12},
		"round 0, behind one of round 0":    {line{at(0, 0, 0, x), at(1, 0, 0, x)}, 1, 0, 1},
		"the greatest round, ahead of one":  {line{at(mostRound, 7, 0, x)}, 1, mostRound, 0},
		"the greatest round, behind one":    {line{at(mostRound-1, 7, 0, x)}, 1, mostRound, 1},
		"daemon 0":                          {few(), 0, 4, 4},
		"the least daemon":                  {few(), leastInt, 4, 4},
		"the greatest daemon":               {few(), mostInt, 4, 8},
		"the least, ahead of daemon 0":      {line{at(3, 0, 0, x)}, leastInt, 3, 0},
		"the greatest, behind the least":    {line{at(3, leastInt, 0, x)}, mostInt, 3, 1},
		"the greatest, ahead of next round": {line{at(3, 0, 0, x), at(4, 0, 0, x)}, mostInt, 3, 1},
	} {
		got := agreeAdd(t, c.given, c.from, c.round, []slip{x})
		want := slices.Insert(slices.Clone(c.given), c.index, at(c.round, c.from, 0, x))
		if !got.same(want) || !agreeMay(t, got) {
			t.Errorf("%s: %s, not %s", name, got, want)
		}
	}
}

// P22.1: several entries of one frame, whose slots are their numbers in the list:
// each of them at its place, of which some may be known.
func TestAddSlots(t *testing.T) {
	a, b, c, d := send(fifo, 1), send(safe, 2), slip{kind: joins, group: 1, session: 3}, send(agreed, 4)
	e := slip{kind: leaves}
	ahead, behind := at(4, 2, 0, a), at(4, 4, 0, a)
	given := line{ahead, at(4, 3, 1, e), at(4, 3, 3, e), behind}
	for name, x := range map[string]struct {
		given line
		slips []slip
		want  line
	}{
		"no entry":                     {given, nil, given},
		"no entry, no queue":           {nil, nil, nil},
		"two, to no queue":             {nil, []slip{a, b}, line{at(4, 3, 0, a), at(4, 3, 1, b)}},
		"the first is the zero one":    {nil, []slip{{}, b}, line{at(4, 3, 1, b)}},
		"the second is":                {nil, []slip{a, {}}, line{at(4, 3, 0, a)}},
		"one between is":               {nil, []slip{a, {}, b}, line{at(4, 3, 0, a), at(4, 3, 2, b)}},
		"all are":                      {given, []slip{{}, {}, {}, {}, {}}, given},
		"all are, no queue":            {nil, []slip{{}, {}}, nil},
		"one, ahead of known ones":     {given, []slip{a}, line{ahead, at(4, 3, 0, a), given[1], given[2], behind}},
		"a known one":                  {given, []slip{{}, b}, given},
		"one ahead of a known one":     {given, []slip{a, b}, line{ahead, at(4, 3, 0, a), given[1], given[2], behind}},
		"between two known ones":       {given, []slip{{}, {}, c}, line{ahead, given[1], at(4, 3, 2, c), given[2], behind}},
		"among known ones":             {given, []slip{a, b, c, d, a}, line{ahead, at(4, 3, 0, a), given[1], at(4, 3, 2, c), given[2], at(4, 3, 4, a), behind}},
		"behind known ones":            {given, []slip{{}, {}, {}, {}, c, d}, line{ahead, given[1], given[2], at(4, 3, 4, c), at(4, 3, 5, d), behind}},
		"the same as what is known":    {given, []slip{{}, e, {}, e}, given},
		"the same entry several times": {nil, []slip{a, a, a}, line{at(4, 3, 0, a), at(4, 3, 1, a), at(4, 3, 2, a)}},
	} {
		got := agreeAdd(t, x.given, 3, 4, x.slips)
		if !got.same(x.want) || !agreeMay(t, got) {
			t.Errorf("%s: %s, not %s", name, got, x.want)
		}
		// The same frame twice: nothing more comes of it.
		if again := agreeAdd(t, got, 3, 4, x.slips); !again.same(got) {
			t.Errorf("%s: another time %s, not %s", name, again, got)
		}
	}
}

// P22.1: a place that the queue has is left away by its round, daemon and slot
// alone, and by all of these.
func TestAddKnown(t *testing.T) {
	known := at(5, 2, 1, send(safe, 1))
	other := []slip{{}, send(fifo, 2)}
	if got := agreeAdd(t, line{known}, 2, 5, other); !got.same(line{known}) {
		t.Errorf("a known place: %s", got)
	}
	for _, c := range []spot{{5, 1, 1}, {5, 3, 1}, {4, 2, 1}, {6, 2, 1}, {2, 5, 1}, {5, 2 + 1<<32, 1}, {5, 2 + 256, 1}, {5 + 1<<16, 2, 1}} {
		if got := agreeAdd(t, line{known}, c.from, c.round, other); len(got) != 2 || !agreeMay(t, got) {
			t.Errorf("%v: %s", c, got)
		}
	}
	if got := agreeAdd(t, line{known}, 2, 5, []slip{send(fifo, 2)}); len(got) != 2 {
		t.Errorf("another slot: %s", got)
	}
}

// P22.1: the zero entry alone is left away, not one of which anything is not zero.
func TestAddZero(t *testing.T) {
	for _, s := range []slip{{kind: 1}, {kind: -1}, {kind: leastInt}, {service: 1}, {service: leastInt}, {group: 1}, {group: 1 << 32}, {session: 1}, {session: 1 << 63}, {number: 1}, {number: most}, {text: "\x00"}, {text: "x"}} {
		for _, slips := range [][]slip{{s}, {{}, s}, {s, {}}, {{}, s, {}, s}} {
			want := 0
			for _, x := range slips {
				if x != (slip{}) {
					want++
				}
			}
			if got := agreeAdd(t, few(), 2, 4, slips); len(got) != len(few())+want {
				t.Errorf("%+v: %s", slips, got)
			}
		}
	}
	// What stands in the queue already stays, also a zero entry.
	given := line{at(1, 1, 1, slip{}), at(2, 1, 1, slip{})}
	if got := agreeAdd(t, given, 1, 2, []slip{send(fifo, 1), send(fifo, 2)}); !got.same(line{given[0], at(2, 1, 0, send(fifo, 1)), given[1]}) {
		t.Errorf("to zero entries: %s", got)
	}
}

// P22.1: rounds, daemons and slots at the edges of their types, with each other.
func TestAddEdges(t *testing.T) {
	rounds := []uint32{0, 1, 1 << 31, mostRound - 1, mostRound}
	daemons := []int{leastInt, -1, 0, 1, 7, 8, 1 << 32, mostInt}
	var l line
	for i, r := range rounds {
		for _, d := range daemons {
			before := len(l)
			l = agreeAdd(t, l, d, r, []slip{send(safe, uint64(i)), {}, {kind: joins}})
			if len(l) != before+2 || !agreeMay(t, l) {
				t.Fatalf("round %d, daemon %d: %s", r, d, l)
			}
		}
	}
	// The other way round they come to the same.
	var other line
	for i := len(rounds) - 1; i >= 0; i-- {
		for _, d := range daemons {
			other = agreeAdd(t, other, d, rounds[i], []slip{send(safe, uint64(i)), {}, {kind: joins}})
		}
	}
	if !other.same(l) {
		t.Errorf("in another order: %s, not %s", other, l)
	}
	for _, r := range rounds {
		for _, d := range daemons {
			agreeAdd(t, l, d, r, []slip{send(fifo, 9), send(fifo, 9), send(fifo, 9), send(fifo, 9)})
		}
	}
}

// every calls what it is given with each line of n numbers below a bound.
func every(n, below int, call func([]int)) {
	l := make([]int, n)
	for {
		call(l)
		i := 0
		for ; i < n; i++ {
			if l[i]++; l[i] < below {
				break
			}
			l[i] = 0
		}
		if i == n {
			return
		}
	}
}

// P22.1: each line of up to four items of eight spots, in whatever order, with
// whatever spot twice, and each frame of up to three slots of these.
func TestAddAll(t *testing.T) {
	spots := []spot{{1, 0, 0}, {1, 0, 1}, {1, 0, 2}, {1, 1, 0}, {2, 0, 0}, {2, 0, 1}, {2, 0, 2}, {2, 1, 1}}
	frames := [][]slip{nil, {send(fifo, 50)}, {{}, send(fifo, 51)}, {send(fifo, 50), send(fifo, 51), send(fifo, 52)}}
	for n := range 5 {
		every(n, len(spots), func(numbers []int) {
			var l line
			for i, k := range numbers {
				l = append(l, item{spots[k], send(agreed, uint64(i+1))})
			}
			agreeMay(t, l)
			for _, frame := range frames {
				agreeAdd(t, l, 0, 1, frame)
				agreeAdd(t, l, 0, 2, frame)
			}
		})
	}
}

// P22.1: to lists that are no queue: ahead of the first one that it is Before,
// though others stand behind that.
func TestAddNoQueue(t *testing.T) {
	x, y := send(fifo, 1), send(fifo, 2)
	given := line{at(5, 1, 0, x), at(2, 1, 0, x), at(9, 1, 0, x), at(2, 1, 0, y), at(4, 1, 0, x), at(1, 1, 0, x)}
	for r, index := range map[uint32]int{1: 0, 3: 0, 4: 0, 5: 2, 6: 2, 8: 2, 9: 6, 10: 6} {
		got := agreeAdd(t, given, 2, r, []slip{y})
		if !got.same(slices.Insert(slices.Clone(given), index, at(r, 2, 0, y))) {
			t.Errorf("round %d: %s", r, got)
		}
	}
	// One that stands behind, out of order, is known too.
	for _, r := range []uint32{1, 2, 4, 5, 9} {
		if got := agreeAdd(t, given, 1, r, []slip{y}); !got.same(given) {
			t.Errorf("the place of round %d twice: %s", r, got)
		}
	}
}

// P22.1, R5: lists that are nil, and empty ones.
func TestAddEmpty(t *testing.T) {
	for _, q := range [][]api.Wait{nil, {}} {
		for _, l := range [][]api.Entry{nil, {}, {{}}, {{}, {}}} {
			if got := queue.Add(q, 1, 1, l); len(got) != 0 {
				t.Errorf("Add of %v to %v is %v", l, q, got)
			}
		}
		if got := queue.Add(q, 1, 1, []api.Entry{{Kind: 1}}); len(got) != 1 || got[0] != (api.Wait{Place: api.Place{Round: 1, From: 1}, Entry: api.Entry{Kind: 1}}) {
			t.Errorf("Add of one to %v is %v", q, got)
		}
	}
}

// P22.1: drawn lines and frames.
func TestAddDrawn(t *testing.T) {
	r := rand.New(rand.NewSource(221))
	came := map[string]int{}
	for range 20000 {
		l := drawnQueue(r, []int{0, 3, 12}[r.Intn(3)])
		if r.Intn(3) == 0 {
			l = drawnLine(r, 10)
		}
		place := drawnSpot(r)
		slips := drawnSlips(r, []int{0, 1, 2, 2, 2, 5}[r.Intn(6)])
		may := agreeMay(t, l)
		got := agreeAdd(t, l, place.from, place.round, slips)
		if may && !agreeMay(t, got) {
			t.Fatalf("Add to %s is no queue: %s", l, got)
		}
		came[fmt.Sprintf("a queue %v, all came %v, some came %v", may, len(got) == len(l)+len(slips), len(got) > len(l))]++
	}
	for _, a := range []bool{true, false} {
		for _, b := range []bool{true, false} {
			for _, c := range []bool{true, false} {
				if what := fmt.Sprintf("a queue %v, all came %v, some came %v", a, b, c); came[what] < 200 {
					t.Errorf("%s: %d times", what, came[what])
				}
			}
		}
	}
}

// R3, R4: what is done to one answer is seen in no other one, nor in what was
// given.
func TestAddTwoAnswers(t *testing.T) {
	for _, c := range []struct {
		round uint32
		slips []slip
	}{{1, nil}, {1, []slip{{}}}, {1, []slip{send(fifo, 1)}}, {4, []slip{send(fifo, 1), send(fifo, 2)}}, {9, []slip{send(fifo, 1)}}} {
		given, entries := waitsOf(few()), entriesOf(c.slips)
		a, b := queue.Add(given, 2, c.round, entries), queue.Add(given, 2, c.round, entries)
		want := lineOf(b)
		spoil(a)
		if !lineOf(b).same(want) {
			t.Errorf("another answer became %v", b)
		}
		untouched(t, "Add", given, few())
		spoil(given)
		if !lineOf(b).same(want) {
			t.Errorf("an answer became %v with what was given", b)
		}
	}
}

// spoil writes over a list, with the room behind it.
func spoil(list []api.Wait) {
	for i := range list[:cap(list)] {
		list[:cap(list)][i] = api.Wait{Place: api.Place{Round: 77, From: 77, Slot: 77}, Entry: api.Entry{Kind: 77, Text: "77"}}
	}
}

// P1: long lists, of each kind.
func TestAddLong(t *testing.T) {
	const n = 200000
	var rising, falling []api.Wait
	entries := make([]api.Entry, n)
	for i := range n {
		w := api.Wait{Place: api.Place{Round: 5, From: 2, Slot: 2 * i}, Entry: api.Entry{Kind: 1, Number: uint64(i)}}
		rising = append(rising, w)
		w.Slot = 2 * (n - i)
		falling = append(falling, w)
		entries[i] = api.Entry{Kind: 1, Session: uint64(i)}
	}
	ends(t, "Add to long lists", func() {
		for _, q := range [][]api.Wait{rising, falling, nil} {
			for _, r := range []uint32{4, 5, 6} {
				known := 0
				for _, w := range q {
					if r == 5 && w.Slot < n {
						known++
					}
				}
				if got := queue.Add(q, 2, r, entries); len(got) != len(q)+n-known {
					t.Errorf("%d and %d are %d", len(q), n, len(got))
				}
			}
		}
	})
}
