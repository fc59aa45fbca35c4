package sched_test

import (
	"maps"
	"math/rand"
	"slices"
	"testing"

	"congress/api"
	"congress/sched"
)

// counter is a list that is filled from again and again, while more entries come
// in, beside an account of what came and what was taken that is told without the
// program's packages.
type counter struct {
	t       *testing.T
	waiting []api.Entry
	last    uint64

	came  uint64            // how many
	order map[uint64]line   // of each session: what came of it, and was not taken
	since map[uint64]*spell // of each session that waits: what was since
	turns int
	most  int // turns that somebody waited
}

// spell is what was since a session began to wait for its turn: the turns of
// others, and who waited.
type spell struct {
	turns line
	seen  map[uint64]int
}

func newCounter(t *testing.T, last uint64) *counter {
	return &counter{t: t, last: last, order: map[uint64]line{}, since: map[uint64]*spell{}}
}

// come lets an entry of a session come in, behind the others.
func (c *counter) come(session uint64) {
	s := slip{session, c.came}
	c.came++
	c.order[session] = append(c.order[session], s)
	c.waiting = append(slices.Clone(c.waiting), s.entry())
	if c.since[session] == nil {
		c.begin(session)
	}
	for _, spell := range c.since {
		spell.seen[session]++
	}
}

// begin lets a session begin to wait, with those who wait now.
func (c *counter) begin(session uint64) {
	now := &spell{seen: map[uint64]int{}}
	for other, l := range c.order {
		if len(l) > 0 {
			now.seen[other]++
		}
	}
	c.since[session] = now
}

// fill takes what is next, and asks what follows of the promises.
func (c *counter) fill(slots int) {
	c.t.Helper()
	waited := len(c.waiting)
	taken, rest, last := sched.Fill(c.waiting, c.last, slots)
	if want := max(0, min(slots, 16, waited)); len(taken) != want || len(rest) != waited-want {
		c.t.Fatalf("Fill of %d of %d took %d, and left %d", slots, waited, len(taken), len(rest))
	}
	for _, s := range lineOf(c.t, taken) {
		c.take(s)
		c.last = s.session
	}
	if last != c.last {
		c.t.Fatalf("last is %d, not %d", last, c.last)
	}
	c.waiting = rest
	c.left()
}

// take accounts for a slip that was taken: the first one of its session, and
// that is not late.
func (c *counter) take(s slip) {
	c.t.Helper()
	own := c.order[s.session]
	if len(own) == 0 || own[0] != s {
		c.t.Fatalf("%v was taken, where %s came", s, own)
	}
	c.order[s.session] = own[1:]
	c.turns++
	for session, spell := range c.since {
		spell.turns = append(spell.turns, s)
		if sessions := spell.turns.all(); len(sessions) != len(spell.turns) {
			c.t.Fatalf("%d waits, and others had two turns: %s", session, spell.turns)
		}
		if n := len(spell.seen); len(spell.turns) > n {
			c.t.Fatalf("%d waits for more than %d turns: %s", session, n, spell.turns)
		}
	}
	c.most = max(c.most, len(c.since[s.session].turns))
	delete(c.since, s.session)
	if len(own) > 1 {
		c.begin(s.session)
	}
}

// left asks that those that still wait are those that came and were not taken,
// in their order.
func (c *counter) left() {
	c.t.Helper()
	var want line
	for _, l := range c.order {
		want = append(want, l...)
	}
	slices.SortFunc(want, func(a, b slip) int { return int(a.mark) - int(b.mark) })
	if got := lineOf(c.t, c.waiting); !got.same(want) {
		c.t.Fatalf("those that still wait are %s, not %s", got, want)
	}
}

// end takes all that still waits, and asks that nothing does then.
func (c *counter) end() {
	c.t.Helper()
	for range c.came {
		c.fill(1)
	}
	if at, ok := sched.Turn(c.waiting, c.last); ok || at != 0 || len(c.waiting) > 0 || c.turns != int(c.came) {
		c.t.Fatalf("%d came, %d were taken, %v still wait", c.came, c.turns, c.waiting)
	}
}

// P19.3: drawn lists, filled from again and again, with more entries of drawn
// sessions that come in between: a session's entries are taken in their order,
// each one once, and no session waits for more turns than there are sessions that
// wait.
func TestDrawnCounters(t *testing.T) {
	longest := 0
	for seed := range int64(150) {
		r := rand.New(rand.NewSource(1950 + seed))
		few := []uint64{drawnSession(r), drawnSession(r), drawnSession(r), drawnSession(r)}
		c := newCounter(t, drawnSession(r))
		for range 60 {
			for range r.Intn(6) {
				session := few[r.Intn(4)]
				if r.Intn(10) == 0 {
					session = drawnSession(r)
				}
				c.come(session)
			}
			c.fill([]int{-1, 0, 1, 1, 2, 2, 3, 5, 16, 40}[r.Intn(10)])
		}
		c.end()
		longest = max(longest, c.most)
	}
	if longest < 4 {
		t.Errorf("nobody waited for more than %d turns", longest)
	}
}

// P19.3: of n sessions each one has its turn within n turns, though one of them
// has ever more.
func TestGreedy(t *testing.T) {
	r := rand.New(rand.NewSource(196))
	for n := 1; n <= 20; n++ {
		for range 20 {
			var sessions []uint64
			for len(sessions) < n {
				if s := drawnSession(r); !slices.Contains(sessions, s) {
					sessions = append(sessions, s)
				}
			}
			greedy := sessions[r.Intn(n)]
			c := newCounter(t, drawnSession(r))
			for range 30 {
				c.come(greedy)
			}
			for _, s := range sessions {
				c.come(s)
			}
			turned := map[uint64]int{}
			for range n {
				c.come(greedy)
				c.fill(1)
				turned[c.last]++
			}
			slices.Sort(sessions)
			if got := slices.Sorted(maps.Keys(turned)); !slices.Equal(got, sessions) {
				t.Fatalf("of %v these had their turn: %v", sessions, got)
			}
		}
	}
}

// P19.3: whatever the others have: each list of how many entries each of four
// sessions has, in unlike orders, behind each last. Within as many turns as there
// are sessions that wait each one has one.
func TestEachHasItsTurn(t *testing.T) {
	r := rand.New(rand.NewSource(197))
	sessions := []uint64{0, 3, 65536, most}
	for code := range 256 {
		var l line
		for i, s := range sessions {
			for range code >> (2 * i) & 3 {
				l = append(l, slip{s, uint64(len(l))})
			}
		}
		for range 4 {
			r.Shuffle(len(l), func(i, j int) { l[i], l[j] = l[j], l[i] })
			for _, last := range []uint64{0, 1, 3, 9, 65536, 1 << 40, most} {
				n := len(l.all())
				taken, _, _ := agreeFill(t, l, last, n)
				if got := taken.all(); !slices.Equal(got, l.all()) {
					t.Fatalf("Fill of %d of %s behind %d took of %v alone", n, l, last, got)
				}
			}
		}
	}
}

// P19.3: round and round: as long as all of n sessions have entries, their turns
// rise, and begin anew.
func TestRoundAndRound(t *testing.T) {
	for n := 1; n <= 12; n++ {
		var l line
		for i := range 8 * n {
			l = append(l, slip{uint64(1000 - i%n*7), uint64(i)})
		}
		for start := range n {
			list, last := listOf(l), uint64(1000-start*7)
			for turn := range 8 * n {
				taken, rest, then := sched.Fill(list, last, 1)
				want := uint64(1000 - ((start-turn-1)%n+n)%n*7)
				if len(taken) != 1 || taken[0].Session != want || then != want {
					t.Fatalf("turn %d behind %d, of %d: %v, %d, not %d", turn, start, n, taken, then, want)
				}
				list, last = rest, then
			}
		}
	}
}

// P19.3: what one session takes does not hang on what the others' entries hold,
// nor on where they stand among its own.
func TestOthersDoNotCount(t *testing.T) {
	r := rand.New(rand.NewSource(198))
	for range 2000 {
		l := drawnLine(r, 20)
		last, slots := drawnLast(r, l), r.Intn(18)
		taken, _, then := agreeFill(t, l, last, slots)
		own := map[uint64]line{}
		for _, s := range l {
			own[s.session] = append(own[s.session], s)
		}
		var sessions []uint64
		for _, s := range l {
			sessions = append(sessions, s.session)
		}
		r.Shuffle(len(sessions), func(i, j int) { sessions[i], sessions[j] = sessions[j], sessions[i] })
		var mixed line
		for _, s := range sessions {
			mixed = append(mixed, own[s][0])
			own[s] = own[s][1:]
		}
		got, _, end := agreeFill(t, mixed, last, slots)
		if !got.same(taken) || end != then {
			t.Fatalf("Fill of %d behind %d: %s takes %s, and %s takes %s", slots, last, l, taken, mixed, got)
		}
	}
}
