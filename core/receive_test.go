package core_test

import (
	"math/rand"
	"slices"
	"testing"

	"congress/api"
	"congress/core"
)

// letter is a packet of daemon 5 to those of settled, in the same state, with
// its frames 4 and 5, and frame 5 of daemon 2.
func letter() api.Packet {
	conf := api.Id{Epoch: 6, Coord: 2, Inc: 23}
	members := api.Members{2: 23, 4: 25, 5: 26}
	return api.Packet{
		From: 5, Inc: 26, Conf: conf, Members: members, Count: api.Counts{2: 5, 4: 4, 5: 5}, Promise: conf, Wanted: members, Epoch: 6,
		Round: 5, Older: page(74), Newest: page(75), RelayOf: 2, RelayRound: 5, Relay: page(76),
	}
}

// P13.3: who sends, with which incarnation, at which clock: of what is not heeded
// nothing happens.
func TestReceiveFrom(t *testing.T) {
	for _, k := range []struct {
		name string
		turn func(c *api.Core, p *api.Packet)
		ok   bool
	}{
		{"another member", func(*api.Core, *api.Packet) {}, true},
		{"Self", func(_ *api.Core, p *api.Packet) { p.From, p.Inc = 4, 25 }, false},
		{"Self, with another incarnation", func(_ *api.Core, p *api.Packet) { p.From, p.Inc = 4, 99 }, false},
		{"no member", func(_ *api.Core, p *api.Packet) { p.From, p.Inc = 7, 1 }, true},
		{"the first daemon", func(_ *api.Core, p *api.Packet) { p.From, p.Inc = 0, most32 }, true},
		{"8", func(_ *api.Core, p *api.Packet) { p.From = 8 }, false},
		{"9", func(_ *api.Core, p *api.Packet) { p.From = 9 }, false},
		{"5 and 2^31", func(_ *api.Core, p *api.Packet) { p.From = 1<<31 + 5 }, false},
		{"2^32 - 1", func(_ *api.Core, p *api.Packet) { p.From = most32 }, false},
		{"2^32 - 3", func(_ *api.Core, p *api.Packet) { p.From = most32 - 2 }, false},
		{"an incarnation below", func(_ *api.Core, p *api.Packet) { p.Inc = 25 }, false},
		{"an incarnation above", func(_ *api.Core, p *api.Packet) { p.Inc = 27 }, true},
		{"the last incarnation", func(_ *api.Core, p *api.Packet) { p.Inc = most32 }, true},
		{"no incarnation", func(_ *api.Core, p *api.Packet) { p.Inc = 0 }, false},
		{"no incarnation, and none known", func(c *api.Core, p *api.Packet) { p.From, p.Inc = 7, 0 }, false},
		{"ahead of the first tick", func(c *api.Core, _ *api.Packet) { c.Now = 0 }, false},
		{"at the clock's end", func(c *api.Core, _ *api.Packet) { c.Now = most32 }, true},
	} {
		c, p := settled(4), letter()
		k.turn(&c, &p)
		got, ok, told := agreeReceive(t, c, p)
		if ok != k.ok {
			t.Errorf("%s: %v", k.name, ok)
		}
		if !k.ok && (!sameCore(got, c) || len(told) != 0) {
			t.Errorf("%s: it became %+v, and told %+v", k.name, got, told)
		}
		if k.ok && (got.Now != c.Now || got.Heard[p.From] != c.Now || got.Beat.Inc[p.From] != p.Inc || got.Peers[p.From].Inc != p.Inc) {
			t.Errorf("%s: it has heard %v, %v", k.name, got.Heard, got.Beat.Inc)
		}
	}
}

// P13.3: what is known of From, and of the others.
func TestReceivePeer(t *testing.T) {
	c, p := settled(4), letter()
	p.Count, p.Ready = api.Counts{2: 3, 5: 9}, true
	c.Peers[5].Cut = api.Counts{2: 4, 4: 1, 5: 8}
	got, _, _ := agreeReceive(t, c, p)
	want := c.Peers
	want[5] = api.Peer{Inc: 26, Conf: p.Conf, Promise: p.Promise, Cut: api.Counts{2: 4, 4: 1, 5: 9}, Ready: true}
	if got.Peers != want {
		t.Errorf("the same promise: %+v", got.Peers)
	}
	p.Inc = 27
	got, _, _ = agreeReceive(t, c, p)
	want[5].Inc, want[5].Cut = 27, p.Count
	if got.Peers != want {
		t.Errorf("another incarnation: %+v", got.Peers)
	}
	p.Inc, p.Promise.Epoch = 26, 5
	if got, _, _ = agreeReceive(t, c, p); got.Peers != c.Peers {
		t.Errorf("a promise below: %+v", got.Peers)
	}
	if got.Heard[5] != 50 {
		t.Errorf("a promise below: heard at %v", got.Heard)
	}
}

// P13.3: the greatest epoch of three.
func TestReceiveEpoch(t *testing.T) {
	numbers := []uint32{0, 5, 6, 7, 8, 9, most32 - 1, most32}
	for _, mine := range numbers {
		for _, its := range numbers {
			for _, promised := range numbers {
				c, p := settled(4), letter()
				c.Epoch, p.Epoch, p.Promise.Epoch = mine, its, promised
				// Whether it is adopted or not.
				for _, inc := range []uint32{25, 24, 0} {
					p.Wanted[4] = inc
					got, _, _ := agreeReceive(t, c, p)
					if got.Epoch != max(mine, its, promised) {
						t.Errorf("of %d, %d, %d: %d", mine, its, promised, got.Epoch)
					}
				}
			}
		}
	}
}

// P13.3: which promises are adopted, and what that is.
func TestReceiveAdopts(t *testing.T) {
	for _, k := range []struct {
		name    string
		promise api.Id
		mine    uint32 // its incarnation in Wanted
		adopts  bool
	}{
		{"above by the epoch", api.Id{Epoch: 7, Coord: 0, Inc: 1}, 25, true},
		{"above by Coord", api.Id{Epoch: 6, Coord: 3, Inc: 1}, 25, true},
		{"above by Inc", api.Id{Epoch: 6, Coord: 2, Inc: 24}, 25, true},
		{"the last one", api.Id{Epoch: most32, Coord: most32, Inc: most32}, 25, true},
		{"the same", api.Id{Epoch: 6, Coord: 2, Inc: 23}, 25, false},
		{"below by Inc", api.Id{Epoch: 6, Coord: 2, Inc: 22}, 25, false},
		{"below by Coord", api.Id{Epoch: 6, Coord: 1, Inc: 99}, 25, false},
		{"below by the epoch", api.Id{Epoch: 5, Coord: 7, Inc: 99}, 25, false},
		{"above, of another incarnation", api.Id{Epoch: 7}, 24, false},
		{"above, of a later incarnation", api.Id{Epoch: 7}, 26, false},
		{"above, without it", api.Id{Epoch: 7}, 0, false},
	} {
		for _, gathers := range []bool{false, true} {
			c, p := settled(4), letter()
			if gathers {
				c.Conf.Epoch, c.Cut, c.Ready = 3, api.Counts{1}, true
				c.Peers[2].Conf = c.Conf
			}
			// A packet out of another configuration, so that it has no frames.
			p.Conf = api.Id{Epoch: 4}
			p.Promise, p.Wanted = k.promise, api.Members{0: 21, 4: k.mine, 5: 26}
			got, ok, told := agreeReceive(t, c, p)
			want := api.Core{Promise: c.Promise, Wanted: c.Wanted, Cut: c.Cut, Ready: c.Ready}
			if k.adopts {
				want = api.Core{Promise: p.Promise, Wanted: p.Wanted, Cut: c.Count}
			}
			if !ok || len(told) != 0 || got.Promise != want.Promise || got.Wanted != want.Wanted || got.Cut != want.Cut || got.Ready != want.Ready {
				t.Errorf("%s, gathers %v: it promises %v, %v, cut %v, ready %v", k.name, gathers, got.Promise, got.Wanted, got.Cut, got.Ready)
			}
			if got.Conf != c.Conf || got.Count != c.Count || !slices.Equal(got.Kept, c.Kept) {
				t.Errorf("%s, gathers %v: it is in %v", k.name, gathers, got.Conf)
			}
		}
	}
}

// frames is the frames that were told, as they stand in a core.
func frames(told []api.Happen) []api.Kept {
	var l []api.Kept
	for _, h := range told {
		if !h.View {
			l = append(l, h.Kept)
		}
	}
	return l
}

// P13.3: while it does not gather: of no daemon above its own count, in the order
// of the packet, and only out of its own configuration.
func TestReceiveFrames(t *testing.T) {
	older := api.Kept{From: 5, Round: 4, Frame: page(74)}
	newest := api.Kept{From: 5, Round: 5, Frame: page(75)}
	relay := api.Kept{From: 2, Round: 5, Frame: page(76)}
	for _, k := range []struct {
		name  string
		count api.Counts
		turn  func(c *api.Core, p *api.Packet)
		want  []api.Kept
	}{
		{"its own count is below all", api.Counts{2: 4, 4: 4, 5: 4}, nil, nil},
		{"its own count is below all, older ones are lacking", api.Counts{2: 4, 4: 4, 5: 3}, nil, []api.Kept{older}},
		{"at its own count", api.Counts{2: 4, 4: 5, 5: 4}, nil, []api.Kept{newest, relay}},
		{"below its own count", api.Counts{2: 4, 4: 6, 5: 4}, nil, []api.Kept{newest, relay}},
		{"all three", api.Counts{2: 4, 4: 5, 5: 3}, nil, []api.Kept{older, newest, relay}},
		{"at the end", api.Counts{2: 4, 4: most32, 5: 3}, nil, []api.Kept{older, newest, relay}},
		{"it has them", api.Counts{2: 5, 4: 5, 5: 5}, nil, nil},
		{"a gap", api.Counts{2: 3, 4: 5, 5: 2}, nil, nil},
		{"no own frame yet", api.Counts{2: 4, 4: 0, 5: 3}, nil, nil},
		{"another Conf by its epoch", api.Counts{2: 4, 4: 5, 5: 3}, func(_ *api.Core, p *api.Packet) { p.Conf.Epoch = 5 }, nil},
		{"another Conf by Coord", api.Counts{2: 4, 4: 5, 5: 3}, func(_ *api.Core, p *api.Packet) { p.Conf.Coord = 4 }, nil},
		{"another Conf by Inc", api.Counts{2: 4, 4: 5, 5: 3}, func(_ *api.Core, p *api.Packet) { p.Conf.Inc = 24 }, nil},
		{"other members in the packet", api.Counts{2: 4, 4: 5, 5: 3}, func(_ *api.Core, p *api.Packet) { p.Members = api.Members{} }, []api.Kept{older, newest, relay}},
		{"other counts in the packet", api.Counts{2: 4, 4: 5, 5: 3}, func(_ *api.Core, p *api.Packet) { p.Count = api.Counts{} }, []api.Kept{older, newest, relay}},
		{"From is no member", api.Counts{2: 4, 4: 5, 5: 3}, func(c *api.Core, _ *api.Packet) { c.Members[5] = 0 }, []api.Kept{relay}},
		{"RelayOf is no member", api.Counts{2: 4, 4: 5, 5: 3}, func(_ *api.Core, p *api.Packet) { p.RelayOf, p.RelayRound = 3, 1 }, []api.Kept{older, newest}},
		{"RelayOf is none", api.Counts{2: 4, 4: 5, 5: 3}, func(_ *api.Core, p *api.Packet) { p.RelayOf = 8 }, []api.Kept{older, newest}},
		{"RelayOf is the last number", api.Counts{2: 4, 4: 5, 5: 3}, func(_ *api.Core, p *api.Packet) { p.RelayOf = most32 }, []api.Kept{older, newest}},
		{"its own next frame comes back", api.Counts{2: 4, 4: 5, 5: 4}, func(_ *api.Core, p *api.Packet) { p.RelayOf, p.RelayRound = 4, 6 }, []api.Kept{newest}},
		{"its own last frame comes back", api.Counts{2: 4, 4: 5, 5: 4}, func(_ *api.Core, p *api.Packet) { p.RelayOf, p.RelayRound = 4, 5 }, []api.Kept{newest}},
		{"the first round", api.Counts{2: 4, 4: 1}, func(_ *api.Core, p *api.Packet) { p.Round = 1 }, []api.Kept{{From: 5, Round: 1, Frame: page(75)}}},
		{"no round", api.Counts{2: 4, 4: 1}, func(_ *api.Core, p *api.Packet) { p.Round = 0 }, nil},
		{"the last round", api.Counts{2: most32 - 1, 4: most32, 5: most32 - 2}, func(_ *api.Core, p *api.Packet) { p.Round, p.RelayRound = most32, most32 },
			[]api.Kept{{From: 5, Round: most32 - 1, Frame: page(74)}, {From: 5, Round: most32, Frame: page(75)}, {From: 2, Round: most32, Frame: page(76)}}},
		{"nothing is behind the last round", api.Counts{2: most32, 4: most32, 5: most32}, func(_ *api.Core, p *api.Packet) { p.Round, p.RelayRound = 0, 0 }, nil},
		{"Ready and Wanted are of no moment", api.Counts{2: 4, 4: 5, 5: 3}, func(c *api.Core, _ *api.Packet) { c.Ready, c.Wanted, c.Peers[2].Inc = true, api.Members{}, 1 }, []api.Kept{older, newest, relay}},
	} {
		c, p := settled(4), letter()
		c.Count = k.count
		if k.turn != nil {
			k.turn(&c, &p)
		}
		got, ok, told := agreeReceive(t, c, p)
		if !ok || !slices.Equal(frames(told), k.want) || len(told) != len(k.want) {
			t.Errorf("%s: told %+v", k.name, told)
		}
		count := c.Count
		for _, x := range k.want {
			count[x.From] = x.Round
		}
		if got.Count != count || got.Conf != c.Conf || core.Gathers(got) {
			t.Errorf("%s: counts %v", k.name, got.Count)
		}
	}
}

// P13.3: while it gathers: up to the Target, if it is not Ready, and all have
// promised what it has.
func TestReceiveGathering(t *testing.T) {
	older := api.Kept{From: 5, Round: 5, Frame: page(74)}
	newest := api.Kept{From: 5, Round: 6, Frame: page(75)}
	relay := api.Kept{From: 2, Round: 5, Frame: page(76)}
	for _, k := range []struct {
		name  string
		turn  func(c *api.Core, p *api.Packet)
		want  []api.Kept
		ready bool
	}{
		{"all that lacks", func(*api.Core, *api.Packet) {}, []api.Kept{older, newest, relay}, true},
		{"one still lacks", func(_ *api.Core, p *api.Packet) { p.RelayRound = 6 }, []api.Kept{older, newest}, false},
		{"none is next", func(_ *api.Core, p *api.Packet) { p.Round, p.RelayRound = 7, 6 }, nil, false},
		{"one is above the target", func(c *api.Core, p *api.Packet) { c.Peers[5].Cut[5], p.Count[5] = 5, 5 }, []api.Kept{older, relay}, true},
		{"two are above the target", func(c *api.Core, p *api.Packet) { c.Peers[5].Cut[5], p.Count[5], c.Peers[2].Cut[5] = 4, 4, 4 }, []api.Kept{relay}, true},
		{"all are above the target", func(c *api.Core, p *api.Packet) {
			p.Count = api.Counts{}
			c.Peers[5].Cut, c.Peers[2].Cut = api.Counts{}, api.Counts{}
		}, nil, true},
		{"the packet raises the target", func(c *api.Core, _ *api.Packet) { c.Peers[5].Cut, c.Peers[2].Cut[5] = api.Counts{}, 0 }, []api.Kept{older, newest, relay}, true},
		{"its own Cut is of the target", func(c *api.Core, p *api.Packet) {
			p.Count = api.Counts{}
			c.Peers[5].Cut, c.Peers[2].Cut = api.Counts{}, api.Counts{}
			c.Cut = api.Counts{2: 4, 4: 4, 5: 5}
		}, []api.Kept{older}, true},
		{"it is ready", func(c *api.Core, _ *api.Packet) { c.Ready = true }, nil, true},
		{"another one has not promised", func(c *api.Core, _ *api.Packet) { c.Peers[2].Promise = c.Conf }, nil, false},
		{"another one has promised more", func(c *api.Core, _ *api.Packet) { c.Peers[2].Promise.Epoch = 10 }, nil, false},
		{"another one is of another incarnation", func(c *api.Core, _ *api.Packet) { c.Peers[2].Inc = 24 }, nil, false},
		{"From has not promised", func(c *api.Core, p *api.Packet) { p.Promise, c.Peers[5].Promise = c.Conf, c.Conf }, nil, false},
		{"From promises now", func(c *api.Core, p *api.Packet) { c.Peers[5].Promise = c.Conf }, []api.Kept{older, newest, relay}, true},
		{"From did promise", func(c *api.Core, p *api.Packet) { p.Promise = c.Conf }, []api.Kept{older, newest, relay}, true},
		{"another Conf", func(c *api.Core, p *api.Packet) { p.Conf.Epoch = 5 }, nil, false},
		{"its own frame, of the target", func(c *api.Core, p *api.Packet) {
			p.RelayOf, c.Peers[2].Cut[4] = 4, 5
		}, []api.Kept{older, newest, {From: 4, Round: 5, Frame: page(76)}}, false},
		{"its own frame, above the target", func(c *api.Core, p *api.Packet) { p.RelayOf = 4 }, []api.Kept{older, newest}, false},
		{"From is no member", func(c *api.Core, _ *api.Packet) { c.Members[5] = 0 }, []api.Kept{relay}, false},
		{"its own count is of no moment", func(c *api.Core, _ *api.Packet) {
			c.Count[4] = 1
			c.Cut[4], c.Peers[2].Cut[4], c.Peers[5].Cut[4] = 1, 0, 0
		}, []api.Kept{older, newest, relay}, false},
	} {
		c, p := gathering(), letter()
		p.Promise, p.Wanted, p.Count, p.Round = c.Promise, c.Wanted, c.Peers[5].Cut, 6
		k.turn(&c, &p)
		got, ok, told := agreeReceive(t, c, p)
		if !ok || !slices.Equal(frames(told), k.want) || len(told) != len(k.want) || got.Ready != k.ready || !core.Gathers(got) {
			t.Errorf("%s: told %+v, ready %v", k.name, told, got.Ready)
		}
		if got.Cut != c.Cut || got.Conf != c.Conf {
			t.Errorf("%s: cut %v", k.name, got.Cut)
		}
	}
}

// P13.3: a packet by which it becomes ready, by which it installs, and by which
// it does both, with frames and without.
func TestReceiveGoesOn(t *testing.T) {
	view := api.Happen{View: true, Conf: gathering().Promise, Members: gathering().Wanted}
	taken := []api.Happen{
		{Kept: api.Kept{From: 5, Round: 5, Frame: page(74)}},
		{Kept: api.Kept{From: 5, Round: 6, Frame: page(75)}},
		{Kept: api.Kept{From: 2, Round: 5, Frame: page(76)}},
	}
	full := api.Counts{2: 5, 4: 4, 5: 6}
	for _, k := range []struct {
		name  string
		turn  func(c *api.Core, p *api.Packet)
		ready bool
		told  []api.Happen
	}{
		{"becomes ready, with frames", func(*api.Core, *api.Packet) {}, true, taken},
		{"becomes ready, without", func(c *api.Core, _ *api.Packet) { c.Count = full }, true, nil},
		{"becomes ready, as From is", func(c *api.Core, p *api.Packet) { p.Ready = true }, true, taken},
		{"becomes ready, as another one is", func(c *api.Core, p *api.Packet) { c.Peers[2].Ready = true }, true, taken},
		{"was ready, and installs", func(c *api.Core, p *api.Packet) { c.Ready, c.Peers[2].Ready, p.Ready = true, true, true }, false, []api.Happen{view}},
		{"was ready, From has installed", func(c *api.Core, p *api.Packet) {
			c.Ready, c.Peers[2].Ready, p.Conf = true, true, c.Promise
		}, false, []api.Happen{view}},
		{"was ready, From has installed, and promised more without it", func(c *api.Core, p *api.Packet) {
			c.Ready, c.Peers[2].Ready, p.Conf = true, true, c.Promise
			p.Promise, p.Wanted = api.Id{Epoch: 11}, api.Members{5: 26}
		}, false, []api.Happen{view}},
		{"was ready, From is not", func(c *api.Core, p *api.Packet) { c.Ready, c.Peers[2].Ready = true, true }, true, nil},
		{"both, without frames", func(c *api.Core, p *api.Packet) { c.Count, c.Peers[2].Ready, p.Ready = full, true, true }, false, []api.Happen{view}},
		{"both, with frames", func(c *api.Core, p *api.Packet) { c.Peers[2].Ready, p.Ready = true, true }, false, append(slices.Clone(taken), view)},
		{"lacks something, the others do not", func(c *api.Core, p *api.Packet) { c.Peers[2].Ready, p.Ready, p.Round = true, true, 5 }, false, []api.Happen{{Kept: api.Kept{From: 5, Round: 5, Frame: page(75)}}, taken[2]}},
	} {
		c, p := gathering(), letter()
		p.Promise, p.Wanted, p.Count, p.Round = c.Promise, c.Wanted, c.Peers[5].Cut, 6
		k.turn(&c, &p)
		got, ok, told := agreeReceive(t, c, p)
		if !ok || got.Ready != k.ready || !slices.Equal(told, k.told) {
			t.Errorf("%s: ready %v, told %+v", k.name, got.Ready, told)
		}
		installs := len(k.told) > 0 && k.told[len(k.told)-1] == view
		if installs != !core.Gathers(got) {
			t.Errorf("%s: it is in %v, and promised %v", k.name, got.Conf, got.Promise)
		}
		if installs && (got.Conf != c.Promise || got.Promise != c.Promise || got.Members != c.Wanted || got.Wanted != c.Wanted || got.Count != (api.Counts{}) || got.Cut != (api.Counts{}) || len(got.Kept) != 0) {
			t.Errorf("%s: it installs %+v", k.name, got)
		}
	}
}

// P13.3: a promise that is adopted, with frames in the same packet: the cut is
// of what was received ahead of them.
func TestReceiveAdoptsAndTakes(t *testing.T) {
	c, p := settled(4), letter()
	c.Count[4] = 9
	c.Members[2], c.Count[2] = 0, 0
	p.Promise, p.Wanted = api.Id{Epoch: 8, Coord: 4, Inc: 25}, api.Members{4: 25, 5: 26}
	p.Round = 6
	p.Count = api.Counts{4: 9, 5: 6}
	got, ok, told := agreeReceive(t, c, p)
	want := []api.Happen{{Kept: api.Kept{From: 5, Round: 5, Frame: page(74)}}, {Kept: api.Kept{From: 5, Round: 6, Frame: page(75)}}}
	if !ok || got.Promise != p.Promise || got.Cut != (api.Counts{4: 9, 5: 4}) || got.Count != (api.Counts{4: 9, 5: 6}) || !got.Ready || !slices.Equal(told, want) {
		t.Errorf("adopts and takes: %+v, %+v", got, told)
	}
	// The cut stays what it sends.
	if q := agreePacket(t, got); q.Count != got.Cut || !q.Ready {
		t.Errorf("it sends %v", q.Count)
	}
	// Where From is ready it installs as well, all behind one packet.
	p.Ready = true
	got, _, told = agreeReceive(t, c, p)
	if got.Conf != p.Promise || !slices.Equal(told, append(want, api.Happen{View: true, Conf: p.Promise, Members: p.Wanted})) {
		t.Errorf("adopts, takes and installs: %+v, %+v", got, told)
	}
	// Where a third one is wanted, of which nothing is known, none is taken.
	p.Wanted[7] = 28
	got, _, told = agreeReceive(t, c, p)
	if got.Promise != p.Promise || got.Count != c.Count || got.Ready || len(told) != 0 {
		t.Errorf("adopts alone: %+v, %+v", got, told)
	}
}

// P13.3: drawn cores and packets.
func TestReceiveDrawn(t *testing.T) {
	r := rand.New(rand.NewSource(132))
	times := map[string]int{}
	for range 60000 {
		c := drawnCore(r)
		p := drawnPacket(r, c)
		if r.Intn(3) == 0 {
			c, p = drawnClose(r)
		}
		got, ok, told := agreeReceive(t, c, p)
		taken := len(frames(told))
		viewed := taken < len(told)
		for name, so := range map[string]bool{
			"heeded": ok, "not heeded": !ok, "adopts": got.Promise != c.Promise, "installs": viewed,
			"becomes ready": got.Ready && !c.Ready, "takes": taken > 0, "takes three": taken == 3,
			"takes and gathers": taken > 0 && core.Gathers(got), "takes and installs": taken > 0 && viewed,
			"adopts and takes": got.Promise != c.Promise && taken > 0, "adopts and installs": got.Promise != c.Promise && viewed,
		} {
			if so {
				times[name]++
			} else {
				times[name] += 0
			}
		}
	}
	for name, many := range times {
		if many < 50 {
			t.Errorf("%s: %d times: too few to tell", name, many)
		}
	}
}
