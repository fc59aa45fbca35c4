package core_test

import (
	"math"
	"slices"
	"testing"

	"congress/api"
	"congress/core"
)

// P13.1: every daemon, and incarnations and waits at their ends: a core of them,
// alone.
func TestStart(t *testing.T) {
	for self := range 8 {
		for _, inc := range []uint32{1, 2, 255, 1 << 31, most32} {
			for _, wait := range []int{1, 2, 3, 500, 999, 1000} {
				var alone api.Members
				alone[self] = inc
				id := api.Id{Epoch: 0, Coord: uint32(self), Inc: inc}
				want := api.Core{Self: self, Own: inc, Wait: wait, Conf: id, Promise: id, Members: alone, Wanted: alone}
				got, ok := core.Start(self, inc, wait)
				if !ok || !sameCore(got, want) {
					t.Errorf("Start(%d, %d, %d) is %+v, %v", self, inc, wait, got, ok)
				}
				if core.Gathers(got) {
					t.Errorf("Start(%d, %d, %d) gathers", self, inc, wait)
				}
			}
		}
	}
}

// P13.1: what is no daemon, no incarnation, or no wait, each alone and together.
func TestStartWrong(t *testing.T) {
	selves := append([]int{0, 7}, strangers...)
	waits := []int{1, 1000, 0, 1001, -1, -1000, 1<<32 + 1, 1<<32 + 1000, math.MinInt, math.MaxInt}
	for i, self := range selves {
		for _, inc := range []uint32{0, 1, most32} {
			for j, wait := range waits {
				good := i < 2 && inc != 0 && j < 2
				got, ok := core.Start(self, inc, wait)
				if ok != good {
					t.Errorf("Start(%d, %d, %d) is %v", self, inc, wait, ok)
				}
				if !ok && !sameCore(got, api.Core{}) {
					t.Errorf("Start(%d, %d, %d) is %+v beside false", self, inc, wait, got)
				}
			}
		}
	}
}

// started is a core from Start on.
func started(t *testing.T, self int, inc uint32, wait int) api.Core {
	t.Helper()
	c, ok := core.Start(self, inc, wait)
	if !ok {
		t.Fatalf("Start(%d, %d, %d) is false", self, inc, wait)
	}
	return c
}

// P13.1, P13.2, P13.3: the chapter's example, in all that it does.
func TestExample(t *testing.T) {
	c := started(t, 0, 1, 3)
	for n := 1; n <= 2; n++ {
		var sent bool
		var told []api.Happen
		c, sent, told = agreeTick(t, c, page(n))
		want := []api.Happen{{Kept: api.Kept{From: 0, Round: uint32(n), Frame: page(n)}}}
		if !sent || !slices.Equal(told, want) {
			t.Fatalf("tick %d: %v, %+v", n, sent, told)
		}
	}
	other := api.Packet{From: 1, Inc: 1, Conf: api.Id{Coord: 1, Inc: 1}, Members: api.Members{0, 1}, Promise: api.Id{Coord: 1, Inc: 1}, Wanted: api.Members{0, 1}}
	c, ok, told := agreeReceive(t, c, other)
	if !ok || len(told) != 0 || core.Gathers(c) || c.Epoch != 0 {
		t.Fatalf("behind the packet: %v, %+v, %+v", ok, told, c)
	}
	c, sent, told := agreeTick(t, c, page(3))
	if sent || len(told) != 0 || !core.Gathers(c) {
		t.Errorf("the next tick: %v, %+v", sent, told)
	}
	if c.Promise != (api.Id{Epoch: 1, Coord: 0, Inc: 1}) || c.Wanted != (api.Members{1, 1}) || c.Epoch != 1 || c.Cut != (api.Counts{2}) || c.Ready {
		t.Errorf("it promises %v, %v, %v", c.Promise, c.Wanted, c.Cut)
	}
	if c.Conf != (api.Id{Inc: 1}) || c.Members != (api.Members{1}) || c.Count != (api.Counts{2}) || len(c.Kept) != 2 {
		t.Errorf("it is still %+v", c)
	}
}

// Two daemons come to one configuration: each step of it, told out.
func TestPairInstalls(t *testing.T) {
	a, b := started(t, 0, 1, 9), started(t, 1, 1, 9)
	a, _, _ = agreeTick(t, a, page(1))
	b, _, _ = agreeTick(t, b, page(2))
	b, _, _ = agreeTick(t, b, page(3))
	a, _, _ = agreeReceive(t, a, agreePacket(t, b))
	a, _, _ = agreeTick(t, a, page(4))
	both := api.Id{Epoch: 1, Inc: 1}
	view := []api.Happen{{View: true, Conf: both, Members: api.Members{1, 1}}}
	// Daemon 1 adopts, and is ready at once: it comes from a configuration of
	// its own, of which daemon 0 knows no frames.
	b, ok, told := agreeReceive(t, b, agreePacket(t, a))
	if !ok || b.Promise != both || !b.Ready || b.Cut != (api.Counts{0, 2}) || b.Epoch != 1 || len(told) != 0 {
		t.Fatalf("daemon 1 behind the proposal: %+v, %+v", b, told)
	}
	// So is daemon 0 behind daemon 1's packet, which tells that it is ready.
	a, _, told = agreeReceive(t, a, agreePacket(t, b))
	if a.Conf != both || a.Members != (api.Members{1, 1}) || a.Count != (api.Counts{}) || a.Cut != (api.Counts{}) || len(a.Kept) != 0 || a.Ready || !slices.Equal(told, view) {
		t.Fatalf("daemon 0 behind the answer: %+v, %+v", a, told)
	}
	b, _, told = agreeReceive(t, b, agreePacket(t, a))
	if b.Conf != both || core.Gathers(b) || !slices.Equal(told, view) {
		t.Fatalf("daemon 1 installs: %+v, %+v", b, told)
	}
	// Who sends its frame of a round first is taken of the other one only
	// behind that one's own.
	a, sent, _ := agreeTick(t, a, page(5))
	b, _, told = agreeReceive(t, b, agreePacket(t, a))
	if !sent || len(told) != 0 || b.Count != (api.Counts{}) {
		t.Fatalf("ahead of its own frame: %v, %+v", sent, told)
	}
	b, sent, _ = agreeTick(t, b, page(6))
	b, _, told = agreeReceive(t, b, agreePacket(t, a))
	want := []api.Happen{{Kept: api.Kept{From: 0, Round: 1, Frame: page(5)}}}
	if !sent || !slices.Equal(told, want) || b.Count != (api.Counts{1, 1}) {
		t.Fatalf("behind its own frame: %v, %+v", sent, told)
	}
	if _, sent, _ = agreeTick(t, a, page(7)); sent {
		t.Error("daemon 0 sends round 2, with round 1 not full")
	}
}
