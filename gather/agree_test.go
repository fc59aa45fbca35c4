package gather_test

import (
	"math/rand"
	"testing"

	"congress/api"
)

// The configuration that cores come from here, and the one that they promised.
var (
	from = api.Id{Epoch: 3, Coord: 1, Inc: 22}
	to   = api.Id{Epoch: 5, Coord: 2, Inc: 23}
)

// gathering is the core of a daemon that knows of all eight that they promised
// what it did, with no frame received.
func gathering(self int, wanted api.Members) api.Core {
	c := api.Core{Self: self, Own: uint32(self) + 21, Conf: from, Promise: to, Wanted: wanted}
	for daemon := range c.Peers {
		c.Peers[daemon] = api.Peer{Inc: uint32(daemon) + 21, Conf: from, Promise: to}
	}
	return c
}

// P12.4: the chapter's words, on a pair of daemons.
func TestPair(t *testing.T) {
	c := gathering(0, crowd(3))
	c.Cut, c.Peers[1].Cut = api.Counts{3, 1}, api.Counts{0, 4}
	for _, k := range []struct {
		name string
		turn func(x *api.Peer)
		want answers
	}{
		{"promised", func(*api.Peer) {}, answers{true, api.Counts{3, 4}, false}},
		{"ready", func(x *api.Peer) { x.Ready = true }, answers{true, api.Counts{3, 4}, true}},
		{"out of another Conf", func(x *api.Peer) { x.Conf.Epoch-- }, answers{true, api.Counts{3, 1}, false}},
		{"ready, out of another Conf", func(x *api.Peer) { x.Conf.Inc, x.Ready = 1, true }, answers{true, api.Counts{3, 1}, true}},
		{"installed", func(x *api.Peer) { x.Conf = to }, answers{true, api.Counts{3, 1}, true}},
		{"installed, and promised more", func(x *api.Peer) { x.Conf, x.Promise = to, api.Id{Epoch: 7} }, answers{false, api.Counts{3, 1}, true}},
		{"promised less", func(x *api.Peer) { x.Promise = from }, answers{false, api.Counts{3, 1}, false}},
		{"promised less, ready", func(x *api.Peer) { x.Promise, x.Ready = from, true }, answers{false, api.Counts{3, 1}, false}},
		{"promised more, ready", func(x *api.Peer) { x.Promise.Epoch, x.Ready = 6, true }, answers{false, api.Counts{3, 1}, false}},
		{"another incarnation", func(x *api.Peer) { x.Inc, x.Ready = 23, true }, answers{false, api.Counts{3, 1}, false}},
		{"another incarnation, installed", func(x *api.Peer) { x.Inc, x.Conf = 21, to }, answers{false, api.Counts{3, 1}, false}},
		{"nothing known", func(x *api.Peer) { *x = api.Peer{} }, answers{false, api.Counts{3, 1}, false}},
	} {
		d := c
		k.turn(&d.Peers[1])
		if got := agree(t, d); got != k.want {
			t.Errorf("%s: %v, not %v", k.name, got, k.want)
		}
	}
}

// P12.4: of whom it hangs: Wanted with none, one, some and all eight, by each
// daemon, in it or not, where one of the eight is as it should not be.
func TestWanted(t *testing.T) {
	for choice := range 256 {
		for self := range api.Daemons {
			for odd := range api.Daemons {
				other := odd != self && choice>>odd&1 != 0
				c := gathering(self, crowd(choice))
				for daemon := range c.Peers {
					c.Peers[daemon].Ready = true
				}
				if got := agree(t, c); !got.all || !got.done || got.target != (api.Counts{}) {
					t.Fatalf("daemon %d wants %v: %v", self, c.Wanted, got)
				}
				c.Peers[odd].Ready = false
				if got := agree(t, c); !got.all || got.done == other {
					t.Fatalf("daemon %d wants %v, %d is not ready: %v", self, c.Wanted, odd, got)
				}
				c.Peers[odd].Promise.Inc++
				if got := agree(t, c); got.all == other || got.done == other {
					t.Fatalf("daemon %d wants %v, %d promised another: %v", self, c.Wanted, odd, got)
				}
				c.Peers[odd].Conf = to
				if got := agree(t, c); got.all == other || !got.done {
					t.Fatalf("daemon %d wants %v, %d has it: %v", self, c.Wanted, odd, got)
				}
				c.Peers[odd].Inc++
				if got := agree(t, c); got.all == other || got.done == other {
					t.Fatalf("daemon %d wants %v, %d has another Inc: %v", self, c.Wanted, odd, got)
				}
			}
		}
	}
}

// P12.4: Wanted with none, and with Self alone: nobody is waited for, and the
// core's own cut is all.
func TestAlone(t *testing.T) {
	for self := range api.Daemons {
		for _, wanted := range []api.Members{{}, crowd(1 << self)} {
			c := gathering(self, wanted)
			c.Cut = api.Counts{1, 2, 3, 4, 5, 6, 7, 8}
			for daemon := range c.Peers {
				c.Peers[daemon] = api.Peer{Inc: uint32(daemon) + 21, Conf: from, Promise: to, Cut: api.Counts{9, 9, 9, 9, 9, 9, 9, 9}}
			}
			if got := agree(t, c); got != (answers{true, c.Cut, true}) {
				t.Errorf("daemon %d wants %v: %v", self, wanted, got)
			}
			c.Peers[self] = api.Peer{}
			if got := agree(t, c); got != (answers{true, c.Cut, true}) {
				t.Errorf("daemon %d wants %v, and knows nothing of itself: %v", self, wanted, got)
			}
			// A daemon that is none of Wanted is none, though 0 is 0.
			c.Peers = [8]api.Peer{}
			c.Conf, c.Promise = api.Id{}, api.Id{}
			if got := agree(t, c); got != (answers{true, c.Cut, true}) {
				t.Errorf("daemon %d wants %v, and knows nothing: %v", self, wanted, got)
			}
		}
	}
}

// P12.4: another one alone, in all ways.
func TestOneOther(t *testing.T) {
	for _, self := range some {
		for _, other := range []int{0, 1, 4, 6, 7} {
			for _, in := range []int{0, 1 << self} {
				c := gathering(self, crowd(1<<other|in))
				for _, promise := range append(kin(to), from) {
					for _, conf := range append(kin(from), kin(to)...) {
						for _, inc := range []uint32{0, 1, uint32(other) + 20, uint32(other) + 21, uint32(other) + 22, most32} {
							for _, ready := range []bool{false, true} {
								c.Peers[other] = api.Peer{Inc: inc, Conf: conf, Promise: promise, Ready: ready, Cut: api.Counts{7, 0, 7}}
								got := agree(t, c)
								counts := inc == uint32(other)+21
								if other == self {
									continue
								}
								want := answers{counts && promise == to, api.Counts{}, counts && (promise == to && ready || conf == to)}
								if counts && promise == to && conf == from {
									want.target = api.Counts{7, 0, 7}
								}
								if got != want {
									t.Fatalf("daemon %d knows of %d %v: %v, not %v", self, other, c.Peers[other], got, want)
								}
							}
						}
					}
				}
			}
		}
	}
}

// P12.4: the core's own Promise and Conf, at what they may be: a peer's are held
// against these.
func TestOwnIds(t *testing.T) {
	for _, promise := range kin(to) {
		for _, conf := range append(kin(from), to, promise) {
			for _, ready := range []bool{false, true} {
				c := gathering(4, crowd(255))
				c.Promise, c.Conf = promise, conf
				c.Peers[7].Ready, c.Peers[0].Ready = ready, !ready
				c.Peers[7].Cut, c.Cut = api.Counts{4, 1}, api.Counts{1, 4}
				agree(t, c)
				for daemon := range c.Peers {
					c.Peers[daemon].Conf = promise
				}
				if got := agree(t, c); !got.done {
					t.Errorf("all have installed %v: %v", promise, got)
				}
			}
		}
	}
}

// P12.4: cuts that are above the core's own and below it, at daemon 0, a middle
// one and daemon 7, of peers that are the first one, a middle one and the last.
func TestTargetCuts(t *testing.T) {
	for _, peer := range some {
		for at := range api.Daemons {
			for _, n := range []uint32{0, 1, 9, 10, 11, 1 << 31, most32} {
				c := gathering(5, crowd(255))
				c.Cut = api.Counts{10, 10, 10, 10, 10, 10, 10, 10}
				c.Peers[peer].Cut = api.Counts{9, 9, 9, 9, 9, 9, 9, 9}
				c.Peers[peer].Cut[at] = n
				want := c.Cut
				want[at] = max(10, n)
				if got := agree(t, c); got.target != want {
					t.Errorf("of %d at %d %d: %v", peer, at, n, got.target)
				}
				for _, turn := range []func(x *api.Peer){
					func(x *api.Peer) { x.Inc++ },
					func(x *api.Peer) { x.Inc = 0 },
					func(x *api.Peer) { x.Promise.Coord++ },
					func(x *api.Peer) { x.Conf.Coord++ },
					func(x *api.Peer) { x.Conf = to },
				} {
					d := c
					turn(&d.Peers[peer])
					if got := agree(t, d); got.target != c.Cut {
						t.Errorf("of %v at %d %d: %v", d.Peers[peer], at, n, got.target)
					}
				}
			}
		}
	}
}

// P12.4: of each daemon the greatest one, of whomever it is, but not what Self
// is said to have.
func TestTargetOfAll(t *testing.T) {
	for self := range api.Daemons {
		c := gathering(self, crowd(255))
		var want api.Counts
		for daemon := range c.Peers {
			c.Peers[daemon].Cut[(daemon+3)%8] = uint32(daemon) + 50
			c.Peers[daemon].Cut[0] = max(c.Peers[daemon].Cut[0], uint32(daemon)+1)
			if daemon != self {
				want[(daemon+3)%8] = uint32(daemon) + 50
			}
		}
		if want[0] == 0 {
			// The one whose count of daemon 0 is 55 is Self.
			want[0] = 8
		}
		if got := agree(t, c); got.target != want {
			t.Errorf("daemon %d: %v, not %v", self, got.target, want)
		}
		c.Cut = api.Counts{60, 60, 60, 60, 60, 60, 60, 60}
		if got := agree(t, c); got.target != c.Cut {
			t.Errorf("daemon %d, which has all: %v", self, got.target)
		}
	}
}

// P12.4: drawn cores, and what is of no moment in them.
func TestAgreeDrawn(t *testing.T) {
	r := rand.New(rand.NewSource(125))
	var all, done, target int
	for range 30000 {
		c := drawnCore(r)
		got := agree(t, c)
		if again := agree(t, busy(c, r)); again != got {
			t.Fatalf("of %v: %v, not %v", c, again, got)
		}
		if got.all {
			all++
		}
		if got.done {
			done++
		}
		if got.target != c.Cut {
			target++
		}
	}
	if min(all, done, target) < 3000 || max(all, done, target) > 27000 {
		t.Errorf("all %d, done %d, target %d: too few to tell", all, done, target)
	}
}
