package core_test

import (
	"math"
	"math/rand"
	"slices"
	"testing"

	"congress/api"
	"congress/core"
)

// settled is the core of a daemon in a configuration of 2, 4 and 5, all of whom
// it has just heard, with nothing of it unsettled. Incarnations are 21 and the
// daemon's number. Its clock stands at 50.
func settled(self int) api.Core {
	conf := api.Id{Epoch: 6, Coord: 2, Inc: 23}
	members := api.Members{2: 23, 4: 25, 5: 26}
	c := api.Core{Self: self, Own: uint32(self) + 21, Wait: 3, Conf: conf, Promise: conf, Members: members, Wanted: members, Epoch: 6}
	c.Now = 50
	for _, daemon := range []int{2, 4, 5} {
		if daemon != self {
			c.Heard[daemon], c.Beat.Inc[daemon] = 49, uint32(daemon)+21
			c.Peers[daemon] = api.Peer{Inc: uint32(daemon) + 21, Conf: conf, Promise: conf}
		}
	}
	c.Count = api.Counts{2: 4, 4: 4, 5: 4}
	for _, daemon := range []int{5, 2, 4} {
		for round := uint32(2); round <= 4; round++ {
			c.Kept = append(c.Kept, api.Kept{From: daemon, Round: round, Frame: page(10*daemon + int(round))})
		}
	}
	c.Kept = loose(c.Kept)
	return c
}

// P13.2: the clock goes on, and stays at its end.
func TestTickClock(t *testing.T) {
	for _, k := range [][2]uint32{{0, 1}, {1, 2}, {50, 51}, {most32 - 1, most32}, {most32, most32}} {
		c := settled(2)
		c.Now = k[0]
		if got, _, _ := agreeTick(t, c, page(1)); got.Now != k[1] {
			t.Errorf("behind %d: %d", k[0], got.Now)
		}
	}
}

// proposal is what daemon 2 proposes, when it does.
var proposal = api.Id{Epoch: 7, Coord: 2, Inc: 23}

// P13.2: whether it is unsettled, for each reason alone: then the least one of
// reach proposes.
func TestTickUnsettled(t *testing.T) {
	above := api.Id{Epoch: 6, Coord: 2, Inc: 24}
	for _, k := range []struct {
		name  string
		turn  func(c *api.Core)
		reach api.Members // of its proposal; none, if there is none
	}{
		{"settled", func(*api.Core) {}, api.Members{}},
		{"settled, with another one's promise", func(c *api.Core) { c.Conf.Coord, c.Promise.Coord = 4, 4 }, api.Members{}},
		{"settled, with another Wanted", func(c *api.Core) { c.Wanted = api.Members{} }, api.Members{}},
		{"gathers", func(c *api.Core) { c.Conf.Epoch, c.Wanted[7] = 5, 28 }, api.Members{2: 23, 4: 25, 5: 26}},
		{"gathers, and its promise stands", func(c *api.Core) { c.Conf.Epoch, c.Peers[4].Conf.Epoch = 5, 5 }, api.Members{}},
		{"one more", func(c *api.Core) { c.Heard[7], c.Beat.Inc[7] = 50, 28 }, api.Members{2: 23, 4: 25, 5: 26, 7: 28}},
		{"one less", func(c *api.Core) { c.Heard[4] = 47 }, api.Members{2: 23, 5: 26}},
		{"one at the wait's end", func(c *api.Core) { c.Heard[4] = 48 }, api.Members{}},
		{"alone", func(c *api.Core) { c.Heard = [8]uint32{} }, api.Members{2: 23}},
		{"a lesser one", func(c *api.Core) { c.Heard[0], c.Beat.Inc[0] = 50, 1 }, api.Members{}},
		{"another incarnation", func(c *api.Core) { c.Beat.Inc[5] = 27 }, api.Members{2: 23, 4: 25, 5: 27}},
		{"another incarnation of its own", func(c *api.Core) { c.Members[2], c.Wanted[2] = 22, 22 }, api.Members{2: 23, 4: 25, 5: 26}},
		{"one more member", func(c *api.Core) { c.Members[6], c.Wanted[6] = 27, 27 }, api.Members{2: 23, 4: 25, 5: 26}},
		{"a promise above", func(c *api.Core) { c.Peers[4].Promise = above }, api.Members{2: 23, 4: 25, 5: 26}},
		{"a promise above, of the last one", func(c *api.Core) { c.Peers[5].Promise = above }, api.Members{2: 23, 4: 25, 5: 26}},
		{"a promise below", func(c *api.Core) { c.Peers[4].Promise = api.Id{Epoch: 6, Coord: 1, Inc: most32} }, api.Members{}},
		{"a promise below, out of another incarnation", func(c *api.Core) { c.Peers[4].Promise, c.Peers[4].Inc = api.Id{Epoch: 5}, 26 }, api.Members{}},
		{"a promise above, out of a lesser incarnation", func(c *api.Core) { c.Peers[4].Promise, c.Peers[4].Inc = above, 24 }, api.Members{}},
		{"a promise above, out of a greater incarnation", func(c *api.Core) { c.Peers[4].Promise, c.Peers[4].Inc = above, 26 }, api.Members{}},
		{"a promise above, of one that is not there", func(c *api.Core) { c.Peers[7] = api.Peer{Inc: 28, Promise: above} }, api.Members{}},
		{"a promise above, of one that is not there, without an incarnation", func(c *api.Core) { c.Peers[7] = api.Peer{Promise: above} }, api.Members{}},
		{"a promise above, of itself", func(c *api.Core) { c.Peers[2] = api.Peer{Inc: 23, Promise: above} }, api.Members{}},
		{"a Conf above", func(c *api.Core) { c.Peers[4].Conf = above }, api.Members{}},
		{"the last epoch", func(c *api.Core) { c.Heard[4], c.Epoch = 47, most32 }, api.Members{}},
	} {
		c := settled(2)
		// One round ahead of the others, so that it does not send.
		c.Count[2] = 5
		k.turn(&c)
		got, sent, told := agreeTick(t, c, page(1))
		switch proposes := k.reach != (api.Members{}); {
		case !proposes:
			if got.Promise != c.Promise || got.Wanted != c.Wanted || got.Epoch != c.Epoch || sent || len(told) != 0 {
				t.Errorf("%s: it promises %v, %v, tells %v, %+v", k.name, got.Promise, got.Wanted, sent, told)
			}
		case got.Promise != proposal || got.Wanted != k.reach || got.Epoch != 7:
			t.Errorf("%s: it promises %v, %v", k.name, got.Promise, got.Wanted)
		case k.name != "alone" && (got.Cut != c.Count || got.Ready || sent || len(told) != 0):
			t.Errorf("%s: the cut is %v, ready %v, %v, %+v", k.name, got.Cut, got.Ready, sent, told)
		case k.name == "alone" && (got.Conf != proposal || got.Count != api.Counts{2: 1} || !sent || len(told) != 2):
			t.Errorf("%s: %+v, %v, %+v", k.name, got, sent, told)
		}
	}
}

// P13.2: a promise that is anew is not ready, and its cut is of now.
func TestTickPromise(t *testing.T) {
	c := settled(2)
	c.Conf.Epoch, c.Promise.Epoch, c.Ready, c.Cut = 4, 5, true, api.Counts{2: 1, 4: 1}
	c.Wanted[7], c.Epoch = 28, 40
	got, sent, told := agreeTick(t, c, page(1))
	if got.Promise != (api.Id{Epoch: 41, Coord: 2, Inc: 23}) || got.Epoch != 41 || got.Ready || got.Cut != c.Count || got.Wanted != c.Members || sent || len(told) != 0 {
		t.Errorf("%+v, %v, %+v", got, sent, told)
	}
	if got.Conf != c.Conf || got.Members != c.Members || got.Count != c.Count || !slices.Equal(got.Kept, c.Kept) {
		t.Errorf("its configuration is %+v", got)
	}
}

// P13.2: who is not the least one proposes nothing, and does not send while it
// gathers.
func TestTickNotLeast(t *testing.T) {
	for _, self := range []int{4, 5} {
		c := settled(self)
		c.Heard[7], c.Beat.Inc[7] = 50, 28
		got, sent, _ := agreeTick(t, c, page(1))
		if got.Promise != c.Promise || got.Epoch != 6 || !sent {
			t.Errorf("daemon %d promises %v, sends %v", self, got.Promise, sent)
		}
		c.Promise.Epoch = 7
		if _, sent, told := agreeTick(t, c, page(1)); sent || len(told) != 0 {
			t.Errorf("daemon %d sends while it gathers: %+v", self, told)
		}
	}
}

// P13.2: waits are taken modulo 2^32.
func TestTickWait(t *testing.T) {
	for _, k := range []struct {
		wait int
		ago  uint32 // up to when one is reached
	}{
		{0, 0}, {1, 1}, {3, 3}, {1000, 1000}, {1001, 1001}, {most32, most32}, {1 << 32, 0}, {1<<32 + 1, 1}, {1<<32 + 1000, 1000}, {1<<33 - 1, most32}, {-1, most32}, {-1 << 32, 0},
		{-1<<32 + 1, 1}, {-1<<32 - 1, most32}, {-most32, 1}, {-1000, most32 - 999}, {math.MinInt, 0}, {math.MinInt + 2, 2}, {math.MaxInt, most32}, {math.MaxInt - 1, most32 - 1},
	} {
		for _, now := range []uint32{1, 2, 1001, 1002, most32 - 998, most32} {
			for _, heard := range []uint32{1, 2, now - min(k.ago, now), now - min(k.ago, now) + 1, now - 1, now} {
				if heard == 0 || heard > now {
					continue
				}
				c := started(t, 0, 1, 1)
				c.Wait, c.Now, c.Heard[3], c.Beat.Inc[3] = k.wait, now-1, heard, 9
				want := api.Members{1}
				if now-heard <= k.ago {
					want[3] = 9
				}
				got, _, _ := agreeTick(t, c, page(1))
				if got.Wanted != want {
					t.Errorf("wait %d, heard at %d: at %d it wants %v", k.wait, heard, now, got.Wanted)
				}
			}
		}
	}
}

// P13.2: it sends, if its last round is full, up to the last round there is.
func TestTickSends(t *testing.T) {
	for _, k := range []struct {
		count api.Counts
		sent  bool
	}{
		{api.Counts{}, true},
		{api.Counts{4: 1}, true},
		{api.Counts{4: 1, 5: 1}, true},
		{api.Counts{2: 1, 5: 1}, false},
		{api.Counts{2: 1}, false},
		{api.Counts{2: 1, 4: 1, 5: 1}, true},
		{api.Counts{0: 1, 2: 3, 4: 3, 5: 3, 7: 2}, true},
		{api.Counts{2: 3, 4: 2, 5: 3}, false},
		{api.Counts{2: 3, 4: 3, 5: 2}, false},
		{api.Counts{2: 3, 4: 4, 5: 4}, true},
		{api.Counts{2: 3, 4: most32, 5: 3}, true},
		{api.Counts{2: most32 - 2, 4: most32 - 2, 5: most32 - 2}, true},
		{api.Counts{2: most32 - 1, 4: most32 - 1, 5: most32 - 1}, true},
		{api.Counts{2: most32 - 1, 4: most32, 5: most32}, true},
		{api.Counts{2: most32 - 1, 4: most32 - 2, 5: most32}, false},
		{api.Counts{2: most32, 4: most32, 5: most32}, false},
		{api.Counts{2: most32, 4: most32 - 1, 5: most32}, false},
	} {
		c := settled(2)
		c.Count, c.Kept = k.count, []api.Kept{{From: 4, Round: k.count[4], Frame: page(3)}}
		got, sent, told := agreeTick(t, c, page(1))
		if sent != k.sent {
			t.Errorf("counts %v: %v", k.count, sent)
		}
		var want []api.Happen
		kept, count := slices.Clone(c.Kept), k.count
		if k.sent {
			mine := api.Kept{From: 2, Round: k.count[2] + 1, Frame: page(1)}
			want, kept, count[2] = []api.Happen{{Kept: mine}}, append(kept, mine), k.count[2]+1
		}
		if !slices.Equal(told, want) || !slices.Equal(got.Kept, kept) || got.Count != count {
			t.Errorf("counts %v: told %+v, kept %+v, %v", k.count, told, got.Kept, got.Count)
		}
	}
}

// P13.2: of its own frames the last three are kept; the others' stay.
func TestTickKeeps(t *testing.T) {
	c := settled(2)
	got, sent, _ := agreeTick(t, c, page(1))
	want := append(slices.Delete(slices.Clone(c.Kept), 3, 4), api.Kept{From: 2, Round: 5, Frame: page(1)})
	if !sent || !slices.Equal(got.Kept, want) {
		t.Errorf("%v, %+v", sent, got.Kept)
	}
}

// P13.2: who is no member of its configuration does not send.
func TestTickNoMember(t *testing.T) {
	c := settled(4)
	c.Members[4] = 0
	if got, sent, told := agreeTick(t, c, page(1)); sent || len(told) != 0 || got.Count != c.Count {
		t.Errorf("%v, %+v", sent, told)
	}
}

// P13.2: one that is left alone proposes, is ready, installs, and sends, all in
// one tick.
func TestTickInstallsAndSends(t *testing.T) {
	c := settled(2)
	c.Heard = [8]uint32{4: 47, 5: 47}
	got, sent, told := agreeTick(t, c, page(1))
	mine := api.Kept{From: 2, Round: 1, Frame: page(1)}
	want := []api.Happen{{View: true, Conf: proposal, Members: api.Members{2: 23}}, {Kept: mine}}
	if !sent || !slices.Equal(told, want) {
		t.Fatalf("%v, %+v", sent, told)
	}
	if got.Conf != proposal || got.Promise != proposal || got.Members != (api.Members{2: 23}) || got.Wanted != got.Members || got.Count != (api.Counts{2: 1}) || got.Cut != (api.Counts{}) || got.Ready || !slices.Equal(got.Kept, []api.Kept{mine}) || got.Epoch != 7 {
		t.Errorf("%+v", got)
	}
}

// gathering is the core of daemon 4, which has promised epoch 9 to 2, 4 and 5,
// knows of both others that they did too, from where it comes, and has received
// less than they: of 2 frame 5, of 5 frames 5 and 6 are lacking.
func gathering() api.Core {
	c := settled(4)
	c.Promise, c.Epoch, c.Cut = api.Id{Epoch: 9, Coord: 2, Inc: 23}, 9, c.Count
	for _, daemon := range []int{2, 5} {
		c.Peers[daemon].Promise = c.Promise
	}
	c.Peers[2].Cut, c.Peers[5].Cut = api.Counts{2: 5, 4: 4, 5: 5}, api.Counts{2: 4, 4: 3, 5: 6}
	return c
}

// P13.2: a tick goes on too: it becomes ready, and installs, as far as the others
// are.
func TestTickGoesOn(t *testing.T) {
	for _, k := range []struct {
		name          string
		turn          func(c *api.Core)
		ready, viewed bool
	}{
		{"lacks something", func(*api.Core) {}, false, false},
		{"lacks one", func(c *api.Core) { c.Count = api.Counts{2: 5, 4: 4, 5: 5} }, false, false},
		{"has all", func(c *api.Core) { c.Count = api.Counts{2: 5, 4: 4, 5: 6} }, true, false},
		{"has more", func(c *api.Core) { c.Count = api.Counts{2: 7, 4: 7, 5: 7} }, true, false},
		{"has all, one has not promised", func(c *api.Core) {
			c.Count, c.Peers[5].Promise = api.Counts{2: 5, 4: 4, 5: 6}, c.Conf
		}, false, false},
		{"has all, one is ready", func(c *api.Core) {
			c.Count, c.Peers[5].Ready = api.Counts{2: 5, 4: 4, 5: 6}, true
		}, true, false},
		{"has all, as all the others", func(c *api.Core) {
			c.Count, c.Peers[5].Ready, c.Peers[2].Ready = api.Counts{2: 5, 4: 4, 5: 6}, true, true
		}, true, true},
		{"lacks something, the others are ready", func(c *api.Core) {
			c.Peers[5].Ready, c.Peers[2].Ready = true, true
		}, false, false},
		{"is ready, as all the others", func(c *api.Core) {
			c.Ready, c.Peers[5].Ready, c.Peers[2].Ready = true, true, true
		}, true, true},
		{"is ready, one of the others is", func(c *api.Core) { c.Ready, c.Peers[5].Ready = true, true }, true, false},
		{"is ready, one has installed, and promised more", func(c *api.Core) {
			c.Ready, c.Peers[5].Ready = true, true
			c.Peers[2].Conf, c.Peers[2].Promise = c.Promise, api.Id{Epoch: 10}
		}, true, true},
		{"has all, one has installed, and promised more", func(c *api.Core) {
			c.Count, c.Peers[5].Ready = api.Counts{2: 5, 4: 4, 5: 6}, true
			c.Peers[2].Conf, c.Peers[2].Promise = c.Promise, api.Id{Epoch: 10}
		}, false, false},
	} {
		c := gathering()
		k.turn(&c)
		got, sent, told := agreeTick(t, c, page(1))
		if k.viewed {
			if !sent || len(told) != 2 || told[0] != (api.Happen{View: true, Conf: c.Promise, Members: c.Wanted}) || told[1].Round != 1 || core.Gathers(got) || got.Ready {
				t.Errorf("%s: %v, %+v, %+v", k.name, sent, told, got)
			}
			continue
		}
		if sent || len(told) != 0 || got.Ready != k.ready || !core.Gathers(got) || !slices.Equal(got.Kept, c.Kept) {
			t.Errorf("%s: %v, %+v, ready %v", k.name, sent, told, got.Ready)
		}
	}
}

// P13.2: drawn cores.
func TestTickDrawn(t *testing.T) {
	r := rand.New(rand.NewSource(131))
	times := map[[3]bool]int{}
	for range 40000 {
		c := drawnCore(r)
		got, sent, told := agreeTick(t, c, drawnFrame(r))
		times[[3]bool{got.Promise != c.Promise, sent, len(told) > 0 && told[0].View}]++
	}
	for i := range 8 {
		k := [3]bool{i&1 != 0, i&2 != 0, i&4 != 0}
		// What it proposes and installs at once it is a member of, and sends.
		if possible := !k[0] || k[1] || !k[2]; possible != (times[k] >= 50) {
			t.Errorf("promises, sends, installs %v: %d times", k, times[k])
		}
	}
}
