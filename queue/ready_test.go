package queue_test

import (
	"fmt"
	"math/rand"
	"slices"
	"testing"

	"congress/api"
	"congress/queue"
)

// three is a state of the members 0, 1 and 2, with these counts.
func three(a, b, c uint32) state {
	return state{[8]uint32{a, b, c}, [8]uint32{1, 4, mostRound}}
}

// The chapter's example.
func TestExample(t *testing.T) {
	l := line{at(1, 0, 0, send(safe, 1)), at(2, 0, 0, send(agreed, 2))}
	for _, counts := range [][3]uint32{{2, 2, 2}, {3, 2, 2}, {3, 3, 2}} {
		come, wait := agreeReady(t, l, three(counts[0], counts[1], counts[2]))
		if !come.same(l) || len(wait) > 0 {
			t.Errorf("round 2 is full: %s, %s", come, wait)
		}
	}
	for _, counts := range [][3]uint32{{1, 1, 1}, {2, 1, 1}, {2, 2, 1}} {
		come, wait := agreeReady(t, l, three(counts[0], counts[1], counts[2]))
		if len(come) > 0 || !wait.same(l) {
			t.Errorf("round 1 is full: %s, %s", come, wait)
		}
	}
}

// P22.2: one entry, of each kind and service, with counts at its place's round, one
// below it and one above it: daemon 1's, of round 5.
func TestReadyOne(t *testing.T) {
	x := func(s slip) line { return line{at(5, 1, 0, s)} }
	join, leave := slip{kind: joins, number: 9}, slip{kind: leaves, number: 9}
	for name, c := range map[string]struct {
		counts [3]uint32
		comes  string
	}{
		"none was received":               {[3]uint32{0, 0, 0}, ""},
		"that one was not":                {[3]uint32{9, 4, 9}, ""},
		"that one, nothing else":          {[3]uint32{0, 5, 0}, "f"},
		"of one two are lacking":          {[3]uint32{5, 5, 3}, "f"},
		"of another one two are lacking":  {[3]uint32{3, 5, 5}, "f"},
		"the round ahead is full":         {[3]uint32{4, 5, 4}, "fc"},
		"the daemon behind has sent":      {[3]uint32{4, 5, 5}, "fc"},
		"the daemon ahead has sent":       {[3]uint32{5, 5, 4}, "fca"},
		"it is full":                      {[3]uint32{5, 5, 5}, "fca"},
		"it is full, and it sent again":   {[3]uint32{5, 6, 5}, "fca"},
		"of one alone the next one lacks": {[3]uint32{6, 6, 5}, "fca"},
		"of itself the next one lacks":    {[3]uint32{6, 5, 6}, "fca"},
		"the next round is full":          {[3]uint32{6, 6, 6}, "fcas"},
		"far more were received":          {[3]uint32{mostRound, mostRound, mostRound}, "fcas"},
	} {
		for service, letter := range []string{fifo: "f", causal: "c", agreed: "a", safe: "s"} {
			want := slices.Contains([]byte(c.comes), letter[0])
			come, wait := agreeReady(t, x(send(service, 9)), three(c.counts[0], c.counts[1], c.counts[2]))
			if len(come) > 0 != want || len(wait) > 0 == want {
				t.Errorf("%s: a send of %s: %s, %s", name, letter, come, wait)
			}
		}
		// Those that are no send are as agreed, whatever their service is.
		want := slices.Contains([]byte(c.comes), 'a')
		for _, s := range []slip{join, leave} {
			for _, s.service = range oddInts {
				if come, _ := agreeReady(t, x(s), three(c.counts[0], c.counts[1], c.counts[2])); len(come) > 0 != want {
					t.Errorf("%s: %+v: %s", name, s, come)
				}
			}
		}
	}
}

// P22.2: what is ordered, and what is not: an ordered one that is not ready, ahead
// of each kind and service that is, and the other way round.
func TestReadyOrdered(t *testing.T) {
	// Daemon 0's round 2 was received, so that all is ready but what is safe and
	// of round 2.
	s := three(2, 2, 2)
	held := at(2, 0, 0, send(safe, 1))
	for _, kind := range oddInts {
		for _, service := range oddInts {
			x := at(2, 1, 0, slip{kind: kind, service: service, number: 2})
			exists := service >= fifo && service <= agreed
			come, wait := agreeReady(t, line{held, x}, s)
			if kind == sends && (service == fifo || service == causal) {
				if !come.same(line{x}) || !wait.same(line{held}) {
					t.Errorf("kind %d, service %d is ordered: %s, %s", kind, service, come, wait)
				}
			} else if len(come) > 0 || !wait.same(line{held, x}) {
				t.Errorf("kind %d, service %d comes ahead of an ordered one: %s, %s", kind, service, come, wait)
			}
			// Ahead of nothing it comes, if there is such a service, or it is
			// no send.
			come, _ = agreeReady(t, line{x}, s)
			if want := kind != sends || exists; len(come) > 0 != want {
				t.Errorf("kind %d, service %d alone: %s", kind, service, come)
			}
		}
	}
	// One of no service waits, and lets the others by.
	for _, service := range []int{-1, 4, 5, 1 << 32, 1<<32 + 2, leastInt, mostInt} {
		none, other := at(1, 0, 0, slip{kind: sends, service: service}), at(1, 1, 0, send(agreed, 3))
		come, wait := agreeReady(t, line{none, other}, three(9, 9, 9))
		if !come.same(line{other}) || !wait.same(line{none}) {
			t.Errorf("service %d: %s, %s", service, come, wait)
		}
	}
}

// P22.2: which come, by their marks, and which wait.
func TestReady(t *testing.T) {
	join := slip{kind: joins, number: 50}
	for name, c := range map[string]struct {
		given      line
		state      state
		come, wait []uint64
	}{
		"no queue": {nil, three(9, 9, 9), nil, nil},
		"none is ready": {
			line{at(1, 0, 0, send(agreed, 1)), at(1, 1, 0, send(fifo, 2)), at(2, 0, 0, send(causal, 3))},
			three(0, 0, 0), nil, []uint64{1, 2, 3}},
		"all are": {
			line{at(1, 0, 0, send(safe, 1)), at(1, 1, 0, send(fifo, 2)), at(2, 0, 0, join), at(2, 1, 0, send(causal, 3)), at(2, 1, 1, send(agreed, 4))},
			three(2, 2, 2), []uint64{1, 2, 50, 3, 4}, nil},
		"the first is not, and is not ordered": {
			line{at(2, 0, 0, send(causal, 1)), at(2, 2, 0, send(fifo, 2))},
			three(2, 0, 2), []uint64{2}, []uint64{1}},
		"one that is not ordered holds up none": {
			line{at(1, 1, 0, slip{kind: sends, service: 4, number: 1}), at(1, 1, 1, send(agreed, 2)), at(1, 2, 0, send(safe, 3))},
			three(2, 2, 2), []uint64{2, 3}, []uint64{1}},
		"the first is not, and is ordered": {
			line{at(1, 0, 0, send(safe, 1)), at(1, 1, 0, send(agreed, 2)), at(1, 1, 1, send(fifo, 3)), at(1, 2, 0, join), at(1, 2, 1, send(causal, 4))},
			three(1, 1, 1), []uint64{3, 4}, []uint64{1, 2, 50}},
		"the second is not": {
			line{at(1, 0, 0, send(agreed, 1)), at(1, 1, 0, send(safe, 2)), at(1, 2, 0, send(agreed, 3)), at(1, 2, 1, send(fifo, 4))},
			three(1, 1, 1), []uint64{1, 4}, []uint64{2, 3}},
		"the last is not": {
			line{at(1, 0, 0, send(safe, 1)), at(1, 1, 0, send(agreed, 2)), at(2, 0, 0, send(agreed, 3)), at(2, 1, 0, send(safe, 4))},
			three(2, 2, 2), []uint64{1, 2, 3}, []uint64{4}},
		"two are not, one between": {
			line{at(1, 0, 0, join), at(2, 0, 0, send(safe, 1)), at(2, 1, 0, send(agreed, 2)), at(2, 1, 1, send(safe, 3)), at(2, 2, 0, join)},
			three(2, 2, 2), []uint64{50}, []uint64{1, 2, 3, 50}},
		"a leave is held up by a send": {
			line{at(1, 0, 0, send(safe, 1)), at(1, 0, 1, slip{kind: leaves, number: 2})},
			three(1, 1, 1), nil, []uint64{1, 2}},
		"a send is held up by a join": {
			line{at(2, 1, 0, join), at(2, 1, 1, send(agreed, 2)), at(2, 2, 0, send(fifo, 3))},
			three(1, 2, 2), []uint64{3}, []uint64{50, 2}},
		"an entry of nobody holds up too": {
			line{at(1, 0, 0, slip{number: 1}), at(1, 1, 0, send(agreed, 2)), at(1, 1, 1, send(causal, 3))},
			state{[8]uint32{5, 5}, [8]uint32{0, 1}}, []uint64{3}, []uint64{1, 2}},
		"safe, and agreed of the next round": {
			line{at(2, 0, 0, send(safe, 1)), at(3, 0, 0, send(agreed, 2)), at(3, 1, 0, send(agreed, 3))},
			three(3, 3, 3), []uint64{1, 2, 3}, nil},
		"one twice": {
			line{at(1, 0, 0, send(agreed, 1)), at(1, 0, 0, send(agreed, 1))},
			three(1, 1, 1), []uint64{1, 1}, nil},
		"out of order": {
			line{at(3, 0, 0, send(agreed, 1)), at(1, 0, 0, send(agreed, 2)), at(3, 0, 0, send(fifo, 3)), at(1, 0, 1, send(causal, 4))},
			three(1, 1, 1), []uint64{4}, []uint64{1, 2, 3}},
		"no member": {
			line{at(1, 0, 0, send(fifo, 1)), at(1, 0, 1, send(agreed, 2)), at(1, 7, 1, join)},
			state{counts: [8]uint32{9, 9, 9, 9, 9, 9, 9, 9}}, nil, []uint64{1, 2, 50}},
		"one member, alone": {
			line{at(1, 3, 0, send(safe, 1)), at(2, 3, 0, send(agreed, 2)), at(2, 3, 1, send(safe, 3)), at(3, 3, 0, send(fifo, 4))},
			state{[8]uint32{3: 2}, [8]uint32{3: 1}}, []uint64{1, 2}, []uint64{3, 4}},
		"eight members": {
			line{at(1, 7, 0, send(safe, 1)), at(2, 0, 0, send(agreed, 2)), at(2, 6, 0, send(agreed, 3)), at(2, 6, 1, send(causal, 4)), at(2, 7, 0, send(agreed, 5))},
			state{[8]uint32{2, 2, 2, 2, 2, 1, 2, 2}, [8]uint32{1, 1, 1, 1, 1, 1, 1, 1}}, []uint64{4}, []uint64{1, 2, 3, 5}},
		"a daemon that is no member": {
			line{at(1, 4, 0, send(agreed, 1)), at(1, 5, 0, send(fifo, 2)), at(2, 0, 0, send(agreed, 3)), at(2, 0, 1, send(fifo, 4))},
			state{[8]uint32{2, 2, 2, 9, 9, 9, 9, 9}, [8]uint32{1, 1, 1}}, []uint64{4}, []uint64{1, 2, 3}},
		"counts of no member do not count": {
			line{at(1, 0, 0, send(safe, 1)), at(2, 2, 0, send(agreed, 2))},
			state{[8]uint32{2, 0, 2, 0}, [8]uint32{1, 0, 1, 0}}, []uint64{1, 2}, nil},
		"round 0": {
			line{at(0, 0, 0, send(fifo, 1)), at(0, 0, 1, send(agreed, 2)), at(0, 1, 0, join)},
			three(9, 9, 9), nil, []uint64{1, 2, 50}},
		"the greatest round": {
			line{at(mostRound, 0, 0, send(fifo, 1)), at(mostRound, 0, 1, send(agreed, 2)), at(mostRound, 1, 0, send(safe, 3)), at(mostRound, 2, 0, join)},
			three(mostRound, mostRound, mostRound), []uint64{1, 2}, []uint64{3, 50}},
		"daemons that are none": {
			line{at(1, leastInt, 0, send(fifo, 1)), at(1, -1, 0, send(causal, 2)), at(1, 0, 0, send(agreed, 3)), at(1, 8, 0, send(fifo, 4)), at(1, 1<<32, 0, send(fifo, 5)), at(1, mostInt, 0, join)},
			three(9, 9, 9), []uint64{3}, []uint64{1, 2, 4, 5, 50}},
	} {
		come, wait := agreeReady(t, c.given, c.state)
		if !slices.Equal(come.marks(), c.come) || !slices.Equal(wait.marks(), c.wait) {
			t.Errorf("%s: %v, %v, not %v, %v", name, come.marks(), wait.marks(), c.come, c.wait)
		}
	}
}

// P22.2: each line of up to five entries of two rounds and two daemons, of each
// kind and service, with all counts that differ for them.
func TestReadyAll(t *testing.T) {
	slips := []slip{send(fifo, 1), send(causal, 2), send(agreed, 3), send(safe, 4), {kind: joins}}
	spots := []spot{{1, 0, 0}, {1, 1, 0}, {2, 0, 0}, {2, 1, 0}, {2, 1, 1}}
	for n := range len(spots) + 1 {
		every(n, len(slips), func(numbers []int) {
			var l line
			for i, k := range numbers {
				l = append(l, item{spots[len(spots)-n+i], slips[k]})
			}
			for a := range uint32(4) {
				for b := range uint32(4) {
					come, wait := l.part(state{[8]uint32{a, b}, [8]uint32{1, 1}})
					x, y := queue.Ready(waitsOf(l), api.Counts{a, b}, api.Members{1, 1})
					if !lineOf(x).same(come) || !lineOf(y).same(wait) {
						t.Fatalf("Ready of %s with %d %d is %s, %s, not %s, %s", l, a, b, lineOf(x), lineOf(y), come, wait)
					}
				}
			}
		})
	}
}

// P22.2: drawn lines, counts and members.
func TestReadyDrawn(t *testing.T) {
	r := rand.New(rand.NewSource(222))
	came := map[string]int{}
	for range 20000 {
		l := drawnQueue(r, 12)
		if r.Intn(4) == 0 {
			l = drawnLine(r, 12)
		}
		s := drawnState(r)
		come, wait := agreeReady(t, l, s)
		came[fmt.Sprintf("some came %v, some wait %v", len(come) > 0, len(wait) > 0)]++
		if slices.ContainsFunc(wait, func(x item) bool { return x.ordered() && s.ready(x) }) {
			came["some are held up"]++
		}
	}
	for _, what := range []string{"some came true, some wait true", "some came true, some wait false", "some came false, some wait true", "some are held up"} {
		if came[what] < 500 {
			t.Errorf("%s: %d times of %v", what, came[what], came)
		}
	}
}

// P22.2, R5: no queue, none and an empty one.
func TestReadyNone(t *testing.T) {
	for _, q := range [][]api.Wait{nil, {}} {
		a, b := queue.Ready(q, api.Counts{1, 1}, api.Members{1, 1})
		if len(a) > 0 || len(b) > 0 || len(queue.Flush(q)) > 0 {
			t.Errorf("of %v: %v, %v", q, a, b)
		}
	}
}

// R3, R4: what is done to one answer is seen in no other one, nor in what was
// given.
func TestReadyTwoAnswers(t *testing.T) {
	l := line{at(1, 0, 0, send(agreed, 1)), at(1, 1, 0, send(fifo, 2)), at(2, 0, 0, send(safe, 3)), at(2, 1, 0, send(fifo, 4)), at(2, 2, 0, send(agreed, 5))}
	for _, s := range []state{three(0, 0, 0), three(1, 0, 0), three(2, 2, 2), three(3, 3, 3)} {
		given := waitsOf(l)
		a, b := queue.Ready(given, s.counts, s.members)
		c, d := queue.Ready(given, s.counts, s.members)
		e, f := queue.Flush(given), queue.Flush(given)
		lists := [][]api.Wait{a, b, c, d, e, f}
		for i, list := range lists {
			var want []line
			for _, other := range lists[i+1:] {
				want = append(want, lineOf(other))
			}
			spoil(list)
			for j, other := range lists[i+1:] {
				if !lineOf(other).same(want[j]) {
					t.Fatalf("answer %d of %v: another one became %v", i, s, other)
				}
			}
			untouched(t, "Ready", given, l)
		}
	}
}

// P22.2 (Flush): none, one, many, in whatever order, with whatever stands there.
func TestFlush(t *testing.T) {
	agreeFlush(t, nil)
	agreeFlush(t, line{at(1, 1, 1, send(safe, 1))})
	agreeFlush(t, line{{}})
	agreeFlush(t, few())
	backward := few()
	slices.Reverse(backward)
	agreeFlush(t, backward)
	agreeFlush(t, slices.Concat(few(), few()))
	r := rand.New(rand.NewSource(224))
	for range 3000 {
		agreeFlush(t, drawnLine(r, 20))
	}
}

// P1: long lists, of which none, some and all come.
func TestReadyLong(t *testing.T) {
	var q []api.Wait
	for i := range 100000 {
		q = append(q, api.Wait{Place: api.Place{Round: uint32(i / 2), From: i % 3}, Entry: api.Entry{Kind: i / 5 % 5, Service: i % 6, Number: uint64(i)}})
	}
	ends(t, "Ready of a long list", func() {
		for _, c := range []api.Counts{{}, {3, 3, 3}, {mostRound, 30000, mostRound}, {mostRound, mostRound, mostRound}} {
			a, b := queue.Ready(q, c, api.Members{1, 1, 1})
			if len(a)+len(b) != len(q) || len(queue.Flush(q)) != len(q) || queue.May(q) {
				t.Errorf("%d and %d of %d", len(a), len(b), len(q))
			}
		}
	})
}
