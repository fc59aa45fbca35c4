package lane_test

import (
	"math/rand"
	"strings"
	"testing"

	"congress/lane"
)

// P23.2, P1, R1, R4: calls on boxes to which no calls lead, held against the
// account, each request with each of its answers.
func TestDrawnCall(t *testing.T) {
	r := rand.New(rand.NewSource(2320))
	came := map[int]map[int]int{}
	for range 30000 {
		b := drawnBox(r)
		s := drawnRequest(r, b)
		_, seen := agreeCall(t, b, drawnRound(r), s)
		a, ok := parsed(s)
		if !ok {
			a.do = -1
		}
		if came[a.do] == nil {
			came[a.do] = map[int]int{}
		}
		came[a.do][seen.code]++
	}
	for do, codes := range map[int][]int{
		-1:      {noRequest},
		opens:   {fine, full, badArg},
		closes:  {fine, badRight, badSession},
		mints:   {fine, badRight, badArg, full},
		revokes: {fine, badRight},
		asksIn:  {fine, badRight, badGroup},
		asksOut: {fine, badRight, badGroup},
		says:    {fine, badRight, badMember, full, badSession},
	} {
		if len(came[do]) != len(codes) {
			t.Errorf("request %d: answered by %v", do, came[do])
		}
		for _, code := range codes {
			if came[do][code] < 5 {
				t.Errorf("request %d: answered %d times by %d", do, came[do][code], code)
			}
		}
	}
}

// P23.3: the same of Emit.
func TestDrawnEmit(t *testing.T) {
	r := rand.New(rand.NewSource(2330))
	came := map[[2]int]int{}
	for range 30000 {
		b := drawnBox(r)
		_, sent := agreeEmit(t, b)
		came[[2]int{min(len(b.control), 3), len(sent)}]++
	}
	for n := range 3 {
		for sent := n; sent <= 2; sent++ {
			if came[[2]int{n, sent}] < 100 {
				t.Errorf("of %d in Control and others in Waiting %d times %d were sent", n, came[[2]int{n, sent}], sent)
			}
		}
	}
}

// P23.4: the same of Take.
func TestDrawnTake(t *testing.T) {
	r := rand.New(rand.NewSource(2340))
	came := map[int]int{}
	for range 30000 {
		_, seen := agreeTake(t, drawnBox(r), drawnPost(r), drawnCounts(r))
		for _, s := range seen {
			came[s.kind]++
		}
	}
	if len(came) != 2 || came[views] < 1000 || came[messages] < 2000 {
		t.Errorf("what was seen is %v", came)
	}
}

// P23.5: the same of Install.
func TestDrawnInstall(t *testing.T) {
	r := rand.New(rand.NewSource(2350))
	came := map[int]int{}
	for range 30000 {
		_, seen := agreeInstall(t, drawnBox(r), drawnName(r), drawnMembers(r))
		for _, s := range seen {
			came[s.kind]++
		}
	}
	if len(came) != 3 || came[views] < 5000 || came[messages] < 5000 || came[confs] < 20000 {
		t.Errorf("what was seen is %v", came)
	}
}

// R1: lanes, requests and frames at any edges: each call ends, without a panic.
func TestOddEnds(t *testing.T) {
	r := rand.New(rand.NewSource(2301))
	for _, tenant := range oddInts {
		for _, daemon := range oddInts {
			b := drawnBox(r)
			b.tenant, b.daemon, b.used, b.views, b.turn = tenant, daemon, pick(r, oddInts), pick(r, oddSessions), pick(r, oddSessions)
			p := drawnPost(r)
			p.from, p.round = pick(r, oddInts), pick(r, oddRounds)
			ends(t, "a call", func() {
				for _, s := range oddRequests {
					agreeCall(t, b, pick(r, oddRounds), s)
				}
				for range 20 {
					agreeCall(t, b, pick(r, oddRounds), drawnRequest(r, b))
				}
				agreeEmit(t, b)
				agreeTake(t, b, p, drawnCounts(r))
				agreeTake(t, b, p, [8]uint32{p.round, mostRound, mostRound, mostRound, mostRound, mostRound, mostRound, mostRound})
				agreeInstall(t, b, drawnName(r), drawnMembers(r))
			})
		}
	}
}

// R1: long lists, however they came about.
func TestLongEnds(t *testing.T) {
	const n = 20000
	b := began(0, 1, make([]uint64, n)...)
	for i := range n {
		b.seats = append(b.seats, seat{uint64(i % 3000), 0})
		b.keys = append(b.keys, key{uint64(i), uint64(i % 5), all, false})
		b.wanted = append(b.wanted, guest{i % 50, i % 2, uint64(i % 7)})
		b.control = append(b.control, slip{joins + i%2, agreed, i % 60, uint64(i % 5), 0, ""})
		b.waiting = append(b.waiting, msg(uint64(i%11), "x"))
		b.table = append(b.table, guest{i % 9, i % 3, uint64(i)})
		b.notes = append(b.notes, note{uint64(i), uint32(i % 9), "open", i})
	}
	for i := range 100 {
		b.queue = append(b.queue, item{spot{uint32(i), 1, 0}, slip{sends + i%3, i % 4, i % 9, uint64(i), 0, ""}})
	}
	ends(t, "a call of a long lane", func() {
		l := laneOf(b)
		for _, s := range []string{"open", "close 16", "mint 16 7", "revoke 16 11", "join 16 7", "leave 16 1", "send 16 1 safe =", strings.Repeat("open ", n)} {
			lane.Call(l, 1, s)
		}
		lane.Emit(l)
		lane.Take(l, frame(1, 5, in(1, 1), out(2, 2)).kept(), everything)
		lane.Install(l, next.id(), everything)
	})
	for _, s := range []string{"close 16", "join 16 7", "leave 16 1"} {
		agreeCall(t, b, 1, s)
	}
	agreeEmit(t, b)
}
