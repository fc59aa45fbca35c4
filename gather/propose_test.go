package gather_test

import (
	"math/rand"
	"testing"

	"congress/api"
	"congress/gather"
)

// standing is the core of daemon 2, whose promise to 2, 4, 5 and 7 stands, and
// the members of that.
func standing() (api.Core, api.Members) {
	reach := crowd(1<<2 | 1<<4 | 1<<5 | 1<<7)
	c := api.Core{Self: 2, Own: 23, Epoch: 9, Promise: api.Id{Epoch: 8, Coord: 2, Inc: 23}, Wanted: reach}
	for daemon := range c.Peers {
		c.Peers[daemon] = api.Peer{Inc: uint32(daemon) + 21, Promise: api.Id{Epoch: 7, Coord: 7, Inc: most32}}
	}
	return c, reach
}

// next is what that core proposes, when it does.
var next = api.Id{Epoch: 10, Coord: 2, Inc: 23}

// P12.3: the chapter's example.
func TestProposeExample(t *testing.T) {
	for _, k := range []struct {
		other api.Id
		want  api.Id
		ok    bool
	}{
		{api.Id{}, api.Id{}, false},
		{api.Id{Epoch: 1, Inc: 1}, api.Id{}, false},
		{api.Id{Epoch: 1, Coord: 1, Inc: 1}, api.Id{Epoch: 2, Inc: 1}, true},
	} {
		c := api.Core{Own: 1, Promise: api.Id{Epoch: 1, Inc: 1}, Wanted: api.Members{1, 1}, Epoch: 1}
		c.Peers[1] = api.Peer{Inc: 1, Promise: k.other}
		if got, ok := agreePropose(t, c, api.Members{1, 1}); got != k.want || ok != k.ok {
			t.Errorf("daemon 1 promised %v: %v, %v", k.other, got, ok)
		}
	}
}

// P12.3: a promise that stands, and one that does not, for each reason alone.
func TestProposeReasons(t *testing.T) {
	for _, k := range []struct {
		name string
		turn func(c *api.Core, reach *api.Members)
		ok   bool
	}{
		{"stands", func(*api.Core, *api.Members) {}, false},
		{"another Coord", func(c *api.Core, _ *api.Members) { c.Promise.Coord = 4 }, true},
		{"a Coord below", func(c *api.Core, _ *api.Members) { c.Promise.Coord = 0 }, true},
		{"a Coord that is none", func(c *api.Core, _ *api.Members) { c.Promise.Coord = most32 }, true},
		{"another Inc", func(c *api.Core, _ *api.Members) { c.Promise.Inc = 24 }, true},
		{"an Inc below", func(c *api.Core, _ *api.Members) { c.Promise.Inc = 22 }, true},
		{"no Inc", func(c *api.Core, _ *api.Members) { c.Promise.Inc = 0 }, true},
		{"another Own", func(c *api.Core, _ *api.Members) { c.Own = 23 << 8 }, true},
		{"another Epoch", func(c *api.Core, _ *api.Members) { c.Promise.Epoch = 9 }, false},
		{"one more in Wanted", func(c *api.Core, _ *api.Members) { c.Wanted[6] = 27 }, true},
		{"one less in Wanted", func(c *api.Core, _ *api.Members) { c.Wanted[7] = 0 }, true},
		{"a lesser one in Wanted", func(c *api.Core, _ *api.Members) { c.Wanted[0] = 1 }, true},
		{"another incarnation in Wanted", func(c *api.Core, _ *api.Members) { c.Wanted[5]++ }, true},
		{"another incarnation of Self in Wanted", func(c *api.Core, _ *api.Members) { c.Wanted[2]++ }, true},
		{"Wanted with none", func(c *api.Core, _ *api.Members) { c.Wanted = api.Members{} }, true},
		{"one more in reach", func(_ *api.Core, reach *api.Members) { reach[3] = 24 }, true},
		{"one less in reach", func(_ *api.Core, reach *api.Members) { reach[4] = 0 }, true},
		{"Self alone in reach", func(_ *api.Core, reach *api.Members) { *reach = crowd(1 << 2) }, true},
		{"another incarnation in reach", func(_ *api.Core, reach *api.Members) { reach[7]-- }, true},
		{"another incarnation of Self in both", func(c *api.Core, reach *api.Members) { c.Wanted[2], reach[2] = 1, 1 }, false},
	} {
		c, reach := standing()
		k.turn(&c, &reach)
		want := api.Id{}
		if k.ok {
			want = api.Id{Epoch: 10, Coord: 2, Inc: c.Own}
		}
		if got, ok := agreePropose(t, c, reach); got != want || ok != k.ok {
			t.Errorf("%s: %v, %v", k.name, got, ok)
		}
	}
}

// P12.3: a promise above, of each daemon in reach and of each that is not, with
// reach's incarnation, with another one, and with that of a daemon that is none.
func TestProposePeers(t *testing.T) {
	_, reach := standing()
	for daemon := range api.Daemons {
		for _, promise := range kin(api.Id{Epoch: 8, Coord: 2, Inc: 23}) {
			for _, inc := range []uint32{reach[daemon], reach[daemon] + 1, reach[daemon] - 1, 0, 1, most32, uint32(daemon) + 21} {
				c, reach := standing()
				c.Peers[daemon] = api.Peer{Inc: inc, Promise: promise}
				beyond := daemon != 2 && reach[daemon] != 0 && inc == reach[daemon] && over(three(promise), [3]uint32{8, 2, 23})
				got, ok := agreePropose(t, c, reach)
				if ok != beyond || ok && got != next || !ok && got != (api.Id{}) {
					t.Errorf("daemon %d, %d, promised %v: %v, %v", daemon, inc, promise, got, ok)
				}
				// Its Conf, its Cut and whether it is ready do not count.
				c.Peers[daemon].Conf, c.Peers[daemon].Cut, c.Peers[daemon].Ready = api.Id{Epoch: most32}, api.Counts{9}, true
				if again, too := agreePropose(t, c, reach); again != got || too != ok {
					t.Errorf("daemon %d, with another Conf: %v, %v", daemon, again, too)
				}
			}
		}
	}
}

// P12.3: one alone of some that have a promise above is enough.
func TestProposeSomePeers(t *testing.T) {
	for choice := range 256 {
		c, reach := standing()
		for daemon := range c.Peers {
			if choice>>daemon&1 != 0 {
				c.Peers[daemon].Promise = api.Id{Epoch: 8, Coord: 3}
			}
		}
		if _, ok := agreePropose(t, c, reach); ok != (choice&(1<<4|1<<5|1<<7) != 0) {
			t.Errorf("choice %b: %v", choice, ok)
		}
	}
}

// P12.3: whom it reaches: none, one, some and all eight, by each daemon, with a
// promise that stands but for who it is, and with another one.
func TestProposeReach(t *testing.T) {
	for choice := range 256 {
		reach := crowd(choice)
		for self := range api.Daemons {
			least := choice != 0 && choice&(1<<self-1) == 0 && choice>>self&1 != 0
			c := api.Core{Self: self, Own: 7, Epoch: 5, Promise: api.Id{Epoch: 5, Coord: uint32(self), Inc: 7}, Wanted: reach}
			if got, ok := agreePropose(t, c, reach); ok || got != (api.Id{}) {
				t.Fatalf("daemon %d, %v: %v, %v, though it stands", self, reach, got, ok)
			}
			c.Promise.Inc = 8
			got, ok := agreePropose(t, c, reach)
			if ok != least || ok && got != (api.Id{Epoch: 6, Coord: uint32(self), Inc: 7}) {
				t.Fatalf("daemon %d, %v: %v, %v", self, reach, got, ok)
			}
		}
	}
}

// P12.3: epochs at their ends; the promise's own epoch does not count.
func TestProposeEpochs(t *testing.T) {
	for _, k := range []struct {
		epoch, want uint32
		ok          bool
	}{
		{0, 1, true}, {1, 2, true}, {2, 3, true}, {255, 256, true}, {1<<31 - 1, 1 << 31, true},
		{most32 - 2, most32 - 1, true}, {most32 - 1, most32, true}, {most32, 0, false},
	} {
		for _, promised := range []uint32{0, 1, 8, most32 - 1, most32} {
			c, reach := standing()
			c.Epoch, c.Promise.Epoch, c.Wanted = k.epoch, promised, api.Members{}
			want := api.Id{}
			if k.ok {
				want = api.Id{Epoch: k.want, Coord: 2, Inc: 23}
			}
			if got, ok := agreePropose(t, c, reach); got != want || ok != k.ok {
				t.Errorf("epoch %d, promised %d: %v, %v", k.epoch, promised, got, ok)
			}
			c.Wanted, c.Promise.Epoch = reach, max(promised, 8)
			if got, ok := agreePropose(t, c, reach); got != (api.Id{}) || ok {
				t.Errorf("epoch %d, promised %d: %v, %v, though it stands", k.epoch, promised, got, ok)
			}
		}
	}
}

// P12.3: incarnations at their ends; that of Self in reach does not count.
func TestProposeOwn(t *testing.T) {
	for _, own := range []uint32{0, 1, 2, 1 << 31, most32} {
		for _, there := range []uint32{1, own | 1, most32} {
			c := api.Core{Self: 7, Own: own, Promise: api.Id{Coord: 7, Inc: own}, Wanted: api.Members{7: there}}
			if _, ok := agreePropose(t, c, api.Members{7: there}); ok {
				t.Errorf("%d stands", own)
			}
			c.Wanted = api.Members{}
			if got, ok := agreePropose(t, c, api.Members{7: there}); got != (api.Id{Epoch: 1, Coord: 7, Inc: own}) || !ok {
				t.Errorf("%d proposes %v, %v", own, got, ok)
			}
		}
	}
}

// P12.3: drawn cores, and what is of no moment in them.
func TestProposeDrawn(t *testing.T) {
	r := rand.New(rand.NewSource(123))
	times := map[bool]int{}
	for range 20000 {
		c, reach := drawnCore(r), drawnMembers(r)
		if r.Intn(3) > 0 {
			reach = c.Wanted
		}
		if r.Intn(3) > 0 {
			c.Promise.Coord, c.Promise.Inc = uint32(c.Self), c.Own
		}
		got, ok := agreePropose(t, c, reach)
		times[ok]++
		if again, too := agreePropose(t, busy(c, r), reach); again != got || too != ok {
			t.Fatalf("Propose(%v, %v): %v, %v, not %v, %v", c, reach, again, too, got, ok)
		}
	}
	if times[true] < 1000 || times[false] < 1000 {
		t.Errorf("proposed or not: %v: too few to tell", times)
	}
}

// P1: of a core whose Self is no daemon each call ends.
func TestWrongSelf(t *testing.T) {
	r := rand.New(rand.NewSource(124))
	for _, self := range strangers {
		for _, choice := range choices {
			for range 20 {
				c, reach := drawnCore(r), crowd(choice)
				c.Self, c.Promise.Coord = self, uint32(self)
				if r.Intn(2) == 0 {
					c.Wanted = reach
				}
				if r.Intn(4) == 0 {
					c.Epoch = most32
				}
				c = busy(c, r)
				was := copied(c)
				ends(t, "Propose", func() {
					if id, ok := gather.Propose(c, reach); !ok && id != (api.Id{}) {
						t.Errorf("Self %d: %v beside false", self, id)
					}
				})
				ends(t, "All", func() { gather.All(c) })
				ends(t, "Target", func() { gather.Target(c) })
				ends(t, "Done", func() { gather.Done(c) })
				same(t, c, was)
			}
		}
	}
}
