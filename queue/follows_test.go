package queue_test

import (
	"math/rand"
	"slices"
	"testing"

	"congress/api"
	"congress/queue"
)

// talk is what daemons send in a configuration, told without the program's
// packages: of each member the slips of its frames, from the round behind base on.
type talk struct {
	members [8]uint32
	base    uint32
	frames  [8][][]slip
}

// drawnTalk is of up to eight members, up to as many frames of each one. Their
// marks are all unlike.
func drawnTalk(r *rand.Rand, rounds int) talk {
	var k talk
	if r.Intn(4) == 0 {
		k.base = pick(r, []uint32{1, 1<<31 - 3, mostRound - uint32(rounds)})
	}
	mark := uint64(1000)
	for d := range 8 {
		if r.Intn(2) == 0 {
			continue
		}
		k.members[d] = pick(r, []uint32{1, 2, 1 << 31, mostRound})
		for range r.Intn(rounds + 1) {
			frame := drawnSlips(r, r.Intn(4))
			for i := range frame {
				if frame[i] != (slip{}) {
					mark++
					frame[i].number = mark
				}
			}
			k.frames[d] = append(k.frames[d], frame)
		}
	}
	return k
}

// hearer is a daemon that hears a talk, beside an account of what came to it, and
// what was told of that.
type hearer struct {
	t       *testing.T
	talk    talk
	waiting []api.Wait

	counts [8]uint32 // what came of each
	asked  [8]uint32 // with which counts it was asked for
	came   line
	told   line
	held   int // how often a ready one was held up
	early  int // told ahead of the flush
}

func newHearer(t *testing.T, k talk) *hearer {
	h := &hearer{t: t, talk: k}
	for d := range 8 {
		h.counts[d], h.asked[d] = k.base, k.base
	}
	return h
}

// hear lets a daemon's next frame come, if there is one.
func (h *hearer) hear(from int) bool {
	n := int(h.counts[from] - h.talk.base)
	if n == len(h.talk.frames[from]) {
		return false
	}
	h.counts[from]++
	frame := h.talk.frames[from][n]
	for slot, s := range frame {
		if s != (slip{}) {
			h.came = append(h.came, item{spot{h.counts[from], from, slot}, s})
		}
	}
	h.waiting = queue.Add(h.waiting, from, h.counts[from], entriesOf(frame))
	return true
}

// hearAll lets all frames come, in a drawn order, each daemon's in order; behind
// each one something is done.
func (h *hearer) hearAll(r *rand.Rand, then func()) {
	var turns []int
	for d, frames := range h.talk.frames {
		for range frames {
			turns = append(turns, d)
		}
	}
	r.Shuffle(len(turns), func(i, j int) { turns[i], turns[j] = turns[j], turns[i] })
	for _, d := range turns {
		h.hear(d)
		then()
	}
}

// raise lets the counts with which it is asked rise to drawn ones, up to some.
func (h *hearer) raise(r *rand.Rand, up [8]uint32) {
	for d := range up {
		if r.Intn(2) == 0 {
			h.asked[d] += uint32(r.Int63n(int64(up[d]-h.asked[d]) + 1))
		}
	}
}

// ask asks for what is ready.
func (h *hearer) ask() {
	h.t.Helper()
	s := state{h.asked, h.talk.members}
	come, wait := queue.Ready(h.waiting, h.asked, h.talk.members)
	for _, x := range lineOf(come) {
		if !s.ready(x) {
			h.t.Fatalf("%+v came with %v", x, s)
		}
	}
	for _, x := range lineOf(wait) {
		if s.ready(x) {
			h.held++
			if !x.ordered() {
				h.t.Fatalf("%+v waits with %v", x, s)
			}
		}
	}
	h.tell(come, wait)
	h.early += len(come)
}

// flush flushes.
func (h *hearer) flush() {
	h.t.Helper()
	h.tell(queue.Flush(h.waiting), nil)
}

// tell accounts for what was told, and asks what follows of the promises.
func (h *hearer) tell(come, wait []api.Wait) {
	h.t.Helper()
	h.told, h.waiting = append(h.told, lineOf(come)...), wait
	both := slices.Concat(h.told, lineOf(wait))
	inOrder := func(a, b item) int { return a.rank(b.spot) }
	want := slices.Clone(h.came)
	slices.SortFunc(want, inOrder)
	slices.SortFunc(both, inOrder)
	if !both.same(want) {
		h.t.Fatalf("of %s came, and still waits: %s", want, both)
	}
	if !slices.IsSortedFunc(lineOf(wait), inOrder) || !queue.May(wait) {
		h.t.Fatalf("what waits is no queue: %s", lineOf(wait))
	}
	if !slices.IsSortedFunc(h.ordered(), inOrder) {
		h.t.Fatalf("ordered ones came in the order %s", h.ordered())
	}
	for d := range 8 {
		if own := h.those(func(x item) bool { return x.from == d && x.kind == sends && x.service == fifo }); !slices.IsSortedFunc(own, inOrder) {
			h.t.Fatalf("of daemon %d by fifo came in the order %s", d, own)
		}
	}
}

// those is what was told of which something holds, as it came.
func (h *hearer) those(holds func(item) bool) line {
	return slices.DeleteFunc(slices.Clone(h.told), func(x item) bool { return !holds(x) })
}

// ordered is what was told of the ordered ones, as it came.
func (h *hearer) ordered() line {
	return h.those(func(x item) bool { return x.ordered() })
}

// P22.3: several daemons that have the same in the end: each of them hears it in
// an order of its own, and asks when it will, with the counts of what came, or
// with lesser ones that rise.
func TestDrawnHearers(t *testing.T) {
	held, early, late := 0, 0, 0
	for seed := range int64(400) {
		r := rand.New(rand.NewSource(2230 + seed))
		k := drawnTalk(r, 6)
		var first *hearer
		for who := range 4 {
			h := newHearer(t, k)
			h.hearAll(r, func() {
				switch h.raise(r, h.counts); who {
				case 0:
					h.asked = h.counts
					h.ask()
				case 1, 2:
					for range r.Intn(who + 1) {
						h.ask()
					}
				}
			})
			late += len(h.waiting)
			h.flush()
			held, early = held+h.held, early+h.early
			if first == nil {
				first = h
			}
			if a, b := h.ordered(), first.ordered(); !a.same(b) {
				t.Fatalf("two that have the same have %s and %s", a, b)
			}
		}
	}
	if held < 1000 || early < 5000 || late < 5000 {
		t.Errorf("%d were held up, %d came, %d were flushed", held, early, late)
	}
}

// P22.3: two that do not have the same in the end: what was ready, and ordered, is
// with the one a beginning of what it is with the other one.
func TestDrawnBeginnings(t *testing.T) {
	unlike := 0
	for seed := range int64(800) {
		r := rand.New(rand.NewSource(3230 + seed))
		k := drawnTalk(r, 8)
		var told []line
		for range 3 {
			h := newHearer(t, k)
			left := r.Intn(30)
			h.hearAll(r, func() {
				if left--; left >= 0 {
					h.asked = h.counts
					h.ask()
				}
			})
			told = append(told, h.ordered())
			h.flush()
		}
		slices.SortFunc(told, func(a, b line) int { return len(a) - len(b) })
		for i, l := range told[1:] {
			if shorter := told[i]; !shorter.same(l[:len(shorter)]) {
				t.Fatalf("the one has %s, the other one %s", shorter, l)
			} else if len(shorter) < len(l) && len(shorter) > 0 {
				unlike++
			}
		}
	}
	if unlike < 100 {
		t.Errorf("%d were unlike", unlike)
	}
}

// P22.3: all has come, and counts rise to whatever they will, also above what
// came, with members who are others than those who sent.
func TestDrawnCounts(t *testing.T) {
	held, early, late := 0, 0, 0
	for seed := range int64(400) {
		r := rand.New(rand.NewSource(4230 + seed))
		k := drawnTalk(r, 6)
		if r.Intn(2) == 0 {
			k.members = drawnState(r).members
		}
		h := newHearer(t, k)
		h.hearAll(r, func() {})
		var up [8]uint32
		for d := range up {
			up[d] = max(h.asked[d], pick(r, []uint32{k.base, h.counts[d], h.counts[d], min(h.counts[d], mostRound-1) + 1, r.Uint32(), mostRound}))
		}
		for range 12 {
			h.raise(r, up)
			h.ask()
		}
		late += len(h.waiting)
		h.flush()
		held, early = held+h.held, early+h.early
	}
	if held < 500 || early < 1000 || late < 1000 {
		t.Errorf("%d were held up, %d came, %d were flushed", held, early, late)
	}
}

// P22.3: frames that come twice, while what they hold still waits, are told once.
func TestDrawnTwice(t *testing.T) {
	for seed := range int64(200) {
		r := rand.New(rand.NewSource(5230 + seed))
		k := drawnTalk(r, 6)
		h := newHearer(t, k)
		h.hearAll(r, func() {
			from := r.Intn(8)
			for n := range int(h.counts[from] - k.base) {
				h.waiting = queue.Add(h.waiting, from, k.base+uint32(n)+1, entriesOf(k.frames[from][n]))
			}
		})
		h.asked = h.counts
		h.ask()
		h.flush()
	}
}
