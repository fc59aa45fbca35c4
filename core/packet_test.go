package core_test

import (
	"math/rand"
	"testing"

	"congress/api"
	"congress/core"
)

// P13.4: each field of a packet, of a core that gathers and of one that does
// not.
func TestPacketFields(t *testing.T) {
	c := settled(4)
	c.Cut, c.Epoch, c.Own, c.Ready = api.Counts{2: 1, 4: 2, 5: 3}, 44, 25, true
	c.Wanted = api.Members{4: 25, 6: 27}
	want := api.Packet{
		From: 4, Inc: 25, Conf: c.Conf, Members: api.Members{2: 23, 4: 25, 5: 26}, Count: api.Counts{2: 4, 4: 4, 5: 4},
		Promise: c.Conf, Wanted: api.Members{4: 25, 6: 27}, Ready: true, Epoch: 44,
		Round: 4, Newest: page(44), Older: page(43), RelayOf: 2, RelayRound: 4, Relay: page(24), // 50 falls on 5 of 9
	}
	if got := agreePacket(t, c); got != want {
		t.Errorf("it does not gather: %+v", got)
	}
	c.Promise, c.Ready = api.Id{Epoch: 7, Coord: 4, Inc: 25}, false
	want.Promise, want.Ready, want.Count = c.Promise, false, c.Cut
	if got := agreePacket(t, c); got != want || !core.Gathers(c) {
		t.Errorf("it gathers: %+v", got)
	}
}

// It gathers, if its promise is apart from its configuration in any number.
func TestGathers(t *testing.T) {
	id := api.Id{Epoch: 6, Coord: 2, Inc: 23}
	for _, k := range []struct {
		promise api.Id
		want    bool
	}{
		{id, false}, {api.Id{Epoch: 7, Coord: 2, Inc: 23}, true}, {api.Id{Epoch: 5, Coord: 2, Inc: 23}, true},
		{api.Id{Epoch: 6, Coord: 3, Inc: 23}, true}, {api.Id{Epoch: 6, Coord: 2, Inc: 24}, true}, {api.Id{Epoch: 6, Coord: 2, Inc: 22}, true}, {api.Id{}, true},
	} {
		c := api.Core{Conf: id, Promise: k.promise}
		if got := core.Gathers(c); got != k.want {
			t.Errorf("it promised %v: %v", k.promise, got)
		}
		c.Wanted, c.Ready, c.Cut = api.Members{1}, true, api.Counts{1}
		if got := core.Gathers(c); got != k.want {
			t.Errorf("it promised %v, with other fields: %v", k.promise, got)
		}
	}
	if core.Gathers(api.Core{}) {
		t.Error("the zero core gathers")
	}
}

// P13.4: its own frames of its last two rounds, kept and not.
func TestPacketRounds(t *testing.T) {
	at := func(from int, round uint32, n int) api.Kept {
		return api.Kept{From: from, Round: round, Frame: page(n)}
	}
	for _, k := range []struct {
		name          string
		round         uint32
		kept          []api.Kept
		newest, older api.Frame
	}{
		{"nothing sent", 0, nil, api.Frame{}, api.Frame{}},
		{"nothing sent, others' frames", 0, []api.Kept{at(5, 0, 1), at(5, most32, 2), at(5, 1, 3)}, api.Frame{}, api.Frame{}},
		{"nothing sent, frames that can't be", 0, []api.Kept{at(4, 1, 1), at(4, 2, 2), at(4, most32, 3)}, api.Frame{}, api.Frame{}},
		{"one", 1, []api.Kept{at(4, 1, 1)}, page(1), api.Frame{}},
		{"two", 2, []api.Kept{at(4, 1, 1), at(4, 2, 2)}, page(2), page(1)},
		{"two, in another order", 2, []api.Kept{at(4, 2, 2), at(5, 2, 3), at(5, 1, 4), at(4, 1, 1)}, page(2), page(1)},
		{"three", 3, []api.Kept{at(4, 1, 1), at(4, 2, 2), at(4, 3, 3)}, page(3), page(2)},
		{"the newest one is not kept", 3, []api.Kept{at(4, 1, 1), at(4, 2, 2), at(5, 3, 3)}, api.Frame{}, page(2)},
		{"the one ahead is not kept", 3, []api.Kept{at(4, 1, 1), at(4, 3, 3), at(5, 2, 2)}, page(3), api.Frame{}},
		{"none is kept", 3, nil, api.Frame{}, api.Frame{}},
		{"the last rounds", most32, []api.Kept{at(4, most32-2, 1), at(4, most32-1, 2), at(4, most32, 3), at(4, 0, 4)}, page(3), page(2)},
		{"the first of two that are the same", 2, []api.Kept{at(4, 2, 5), at(4, 2, 6), at(4, 1, 7), at(4, 1, 8)}, page(5), page(7)},
		{"of daemons that are none", 2, []api.Kept{at(-4, 2, 5), at(1<<32+4, 2, 6), at(-1<<32+4, 1, 7), at(12, 1, 8)}, api.Frame{}, api.Frame{}},
	} {
		c := settled(4)
		c.Count[4], c.Kept = k.round, k.kept
		for _, l := range [][]api.Kept{k.kept, loose(k.kept), append([]api.Kept{}, k.kept...)} {
			c.Kept = l
			if p := agreePacket(t, c); p.Round != k.round || p.Newest != k.newest || p.Older != k.older {
				t.Errorf("%s: %d, %+v, %+v", k.name, p.Round, p.Newest, p.Older)
			}
			// It is the own count that is told, of one that gathers too, not the
			// one of its cut.
			c.Promise.Epoch, c.Cut[4] = 9, k.round+7
			if p := agreePacket(t, c); p.Round != k.round || p.Newest != k.newest || p.Older != k.older {
				t.Errorf("%s, gathering: %d, %+v, %+v", k.name, p.Round, p.Newest, p.Older)
			}
		}
	}
}

// P13.4: the frame that its clock falls on is passed on.
func TestPacketRelay(t *testing.T) {
	for many := range 10 {
		var l []api.Kept
		for n := range many {
			l = append(l, api.Kept{From: n % 8, Round: uint32(3 + n), Frame: page(60 + n)})
		}
		for _, now := range []uint32{0, 1, 2, 7, 8, 9, 10, 1 << 31, most32 - 1, most32} {
			c := settled(4)
			c.Now, c.Kept = now, l
			p := agreePacket(t, c)
			if many == 0 {
				if p.RelayOf != 0 || p.RelayRound != 0 || p.Relay != (api.Frame{}) {
					t.Errorf("of none, at %d: %+v", now, p)
				}
				continue
			}
			n := int(now % uint32(many))
			if p.RelayOf != uint32(n%8) || p.RelayRound != uint32(3+n) || p.Relay != page(60+n) {
				t.Errorf("of %d, at %d: %d, %d, %+v", many, now, p.RelayOf, p.RelayRound, p.Relay)
			}
		}
	}
}

// P13.4: drawn cores; what a packet tells does not hang on what a core knows of
// the others, nor on its wait.
func TestPacketDrawn(t *testing.T) {
	r := rand.New(rand.NewSource(133))
	for range 20000 {
		c := drawnCore(r)
		p := agreePacket(t, c)
		d := drawnCore(r)
		c.Peers, c.Heard, c.Beat.Inc, c.Wait = d.Peers, d.Heard, d.Beat.Inc, d.Wait
		if q := agreePacket(t, c); q != p {
			t.Fatalf("Packet of %+v: %+v, and then %+v", c, p, q)
		}
	}
}

// P1: of a core whose Self is no daemon, or whose Own is 0, each call ends, and
// changes nothing that it was given.
func TestWrongCore(t *testing.T) {
	r := rand.New(rand.NewSource(134))
	for range 60 {
		for i, self := range append([]int{0, 7, 3}, strangers...) {
			c := drawnCore(r)
			p := drawnPacket(r, c)
			if r.Intn(2) == 0 {
				c, p = drawnClose(r)
			}
			c.Self = self
			if i < 3 || r.Intn(3) == 0 {
				c.Own = 0
			}
			if r.Intn(3) == 0 {
				p.From = uint32(self)
			}
			if r.Intn(3) == 0 {
				c.Promise = c.Conf
			}
			switch r.Intn(6) {
			case 0:
				c.Kept = nil
			case 1:
				c.Kept = []api.Kept{}
			case 2:
				c.Members, c.Wanted = api.Members{}, api.Members{}
			case 3:
				c.Heard, c.Peers = [8]uint32{}, [8]api.Peer{}
			}
			was := copied(c)
			ends(t, "Tick", func() {
				got, _, told := core.Tick(c, page(1))
				scribble(got, told)
			})
			ends(t, "Receive", func() {
				got, _, told := core.Receive(c, p)
				scribble(got, told)
			})
			ends(t, "Packet", func() { core.Packet(c) })
			ends(t, "Gathers", func() {
				if core.Gathers(c) != (c.Promise != c.Conf) {
					t.Errorf("Gathers of %+v", c)
				}
			})
			asItWas(t, c, was)
		}
	}
}

// R5: an empty list is the same as a nil one, and what is no member's stays in
// it, till something else is installed.
func TestKeptLists(t *testing.T) {
	odd := []api.Kept{{From: -1, Round: 3}, {From: 8, Round: 0, Frame: page(2)}, {From: 7, Round: most32, Frame: page(3)}, {From: 4, Round: 9}, {From: 1 << 40}}
	for _, l := range [][]api.Kept{nil, {}, odd, loose(odd), loose(nil)} {
		c := settled(4)
		c.Kept = l
		got, sent, _ := agreeTick(t, c, page(1))
		if !sent || len(got.Kept) != len(l)+1 {
			t.Errorf("Tick of %v: %v", l, got.Kept)
		}
		got, ok, _ := agreeReceive(t, c, letter())
		if !ok || len(got.Kept) != len(l) {
			t.Errorf("Receive of %v: %v", l, got.Kept)
		}
		got, ok, _ = agreeReceive(t, c, api.Packet{From: 4})
		if ok || len(got.Kept) != len(l) {
			t.Errorf("Receive of %v, not heeded: %v", l, got.Kept)
		}
		agreePacket(t, c)
		c.Heard = [8]uint32{}
		if got, _, _ := agreeTick(t, c, page(1)); len(got.Kept) != 1 {
			t.Errorf("Tick of %v, alone: %v", l, got.Kept)
		}
	}
}
