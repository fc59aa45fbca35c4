package gather_test

import (
	"math/rand"
	"testing"

	"congress/api"
	"congress/gather"
)

// known is a peer that is neither at the beginning nor at the end.
func known() api.Peer {
	return api.Peer{
		Inc:     5,
		Conf:    api.Id{Epoch: 3, Coord: 2, Inc: 4},
		Promise: api.Id{Epoch: 6, Coord: 1, Inc: 7},
		Cut:     api.Counts{10, 20, 30, 40, 50, 60, 70, 80},
	}
}

// says is a packet that tells of the same incarnation, promise and configuration
// as known, with counts of which some are above and some below.
func says() api.Packet {
	return api.Packet{
		From: 3, Inc: 5,
		Conf:    known().Conf,
		Promise: known().Promise,
		Count:   api.Counts{11, 19, 30, 0, 51, 59, most32, 79},
	}
}

// P12.1: an answer of each kind, written out.
func TestUpdateWritten(t *testing.T) {
	x, whole := known(), says()
	both := api.Counts{11, 20, 30, 40, 51, 60, most32, 80}
	taken := func(p api.Packet) api.Peer {
		return api.Peer{Inc: p.Inc, Conf: p.Conf, Promise: p.Promise, Cut: p.Count, Ready: p.Ready}
	}
	for _, c := range []struct {
		name string
		turn func(p *api.Packet)
		want func(p api.Packet) api.Peer
	}{
		{"Inc below", func(p *api.Packet) { p.Inc, p.Promise.Epoch, p.Conf.Epoch, p.Ready = 4, 9, 9, true }, func(api.Packet) api.Peer { return x }},
		{"Inc above", func(p *api.Packet) { p.Inc, p.Promise.Epoch, p.Conf.Epoch = 6, 1, 0 }, taken},
		{"Promise above in Epoch", func(p *api.Packet) { p.Promise, p.Conf.Epoch = api.Id{Epoch: 7}, 0 }, taken},
		{"Promise above in Coord", func(p *api.Packet) { p.Promise.Coord, p.Promise.Inc = 2, 0 }, taken},
		{"Promise above in Inc", func(p *api.Packet) { p.Promise.Inc, p.Ready = 8, true }, taken},
		{"Promise below in Epoch", func(p *api.Packet) { p.Promise, p.Ready = api.Id{Epoch: 5, Coord: 7, Inc: 9}, true }, func(api.Packet) api.Peer { return x }},
		{"Promise below in Coord", func(p *api.Packet) { p.Promise.Coord, p.Promise.Inc = 0, 9 }, func(api.Packet) api.Peer { return x }},
		{"Promise below in Inc", func(p *api.Packet) { p.Promise.Inc, p.Conf.Epoch = 6, 9 }, func(api.Packet) api.Peer { return x }},
		{"Conf above", func(p *api.Packet) { p.Conf.Inc = 5 }, func(p api.Packet) api.Peer {
			return api.Peer{Inc: 5, Conf: p.Conf, Promise: x.Promise, Cut: p.Count}
		}},
		{"Conf the Promise", func(p *api.Packet) { p.Conf, p.Ready = p.Promise, true }, taken},
		{"Conf the same", func(*api.Packet) {}, func(api.Packet) api.Peer {
			return api.Peer{Inc: 5, Conf: x.Conf, Promise: x.Promise, Cut: both}
		}},
		{"Conf the same, ready", func(p *api.Packet) { p.Ready = true }, func(api.Packet) api.Peer {
			return api.Peer{Inc: 5, Conf: x.Conf, Promise: x.Promise, Cut: both, Ready: true}
		}},
		{"Conf below", func(p *api.Packet) { p.Conf.Coord = 1 }, func(api.Packet) api.Peer { return x }},
		{"Conf below, ready", func(p *api.Packet) { p.Conf.Epoch, p.Ready = 2, true }, func(api.Packet) api.Peer {
			return api.Peer{Inc: 5, Conf: x.Conf, Promise: x.Promise, Cut: x.Cut, Ready: true}
		}},
	} {
		p := whole
		c.turn(&p)
		if got, want := agreeUpdate(t, x, p), c.want(p); got != want {
			t.Errorf("%s: %v, not %v", c.name, got, want)
		}
	}
}

// P12.1: Ready in neither, in one and in both.
func TestUpdateReady(t *testing.T) {
	low, high := api.Id{Epoch: 2, Coord: 7, Inc: 9}, api.Id{Epoch: 4}
	for _, conf := range []api.Id{low, known().Conf, high} {
		for _, one := range []bool{false, true} {
			for _, two := range []bool{false, true} {
				x, p := known(), says()
				x.Ready, p.Ready, p.Conf = one, two, conf
				if got := agreeUpdate(t, x, p); got.Ready != (one || two) {
					t.Errorf("%v and %v, Conf %v: %v", one, two, conf, got)
				}
				// Who promised more, or came up again, is as ready as it says.
				p.Promise.Epoch++
				if got := agreeUpdate(t, x, p); got.Ready != two {
					t.Errorf("%v and %v, a Promise above: %v", one, two, got)
				}
				p.Promise.Epoch, p.Inc = 0, x.Inc+1
				if got := agreeUpdate(t, x, p); got.Ready != two {
					t.Errorf("%v and %v, an Inc above: %v", one, two, got)
				}
			}
		}
	}
}

// P12.1: incarnations below, the same and above, at their ends, with promises
// and configurations that are below, the same and above.
func TestUpdateIncs(t *testing.T) {
	incs := []uint32{0, 1, 2, 1<<31 - 1, 1 << 31, most32 - 1, most32}
	turns := []uint32{0, 5, 6, 7, most32}
	for _, was := range incs {
		for _, is := range incs {
			for _, promise := range turns {
				for _, conf := range turns {
					x, p := known(), says()
					x.Inc, p.Inc = was, is
					p.Promise.Epoch, p.Conf.Epoch = promise, conf
					x.Ready, p.Ready = promise > conf, promise <= conf
					agreeUpdate(t, x, p)
				}
			}
		}
	}
}

// P12.1: promises and configurations that are apart in one number alone, or in
// all of them, near and far.
func TestUpdateIds(t *testing.T) {
	mid := api.Id{Epoch: 4, Coord: 3, Inc: 6}
	for _, promise := range kin(mid) {
		for _, promised := range kin(mid) {
			for _, conf := range kin(mid) {
				for i, ready := range []bool{false, true, true, false} {
					x, p := known(), says()
					x.Promise, p.Promise = promise, promised
					x.Conf, p.Conf = mid, conf
					x.Ready, p.Ready = ready, i < 2
					agreeUpdate(t, x, p)
					x.Conf, p.Conf = conf, mid
					agreeUpdate(t, x, p)
				}
			}
		}
	}
}

// P12.1: counts that are above at one daemon and below at another, at each pair.
func TestUpdateCounts(t *testing.T) {
	for up := range api.Daemons {
		for down := range api.Daemons {
			for _, n := range []uint32{1, 2, 1 << 31, most32} {
				x, p := known(), says()
				x.Cut, p.Count = api.Counts{}, api.Counts{}
				x.Cut[down], p.Count[up] = n, n-1
				want := x.Cut
				want[up] = max(want[up], n-1)
				if got := agreeUpdate(t, x, p); got.Cut != want {
					t.Errorf("%v and %v: %v", x.Cut, p.Count, got.Cut)
				}
				p.Conf.Epoch++
				if got := agreeUpdate(t, x, p); got.Cut != p.Count {
					t.Errorf("a Conf above: %v, not %v", got.Cut, p.Count)
				}
				p.Conf.Epoch = 0
				if got := agreeUpdate(t, x, p); got.Cut != x.Cut {
					t.Errorf("a Conf below: %v, not %v", got.Cut, x.Cut)
				}
			}
		}
	}
}

// P12.1: what a packet says of other things is of no moment.
func TestUpdateHeedsNoMore(t *testing.T) {
	r := rand.New(rand.NewSource(121))
	for range 3000 {
		x, f := peerOf(drawnFact(r)), drawnFact(r)
		want := agreeUpdate(t, x, packetOf(f))
		if got := agreeUpdate(t, x, loud(packetOf(f), r)); got != want {
			t.Fatalf("Update(%v, ..) is %v, not %v", x, got, want)
		}
	}
}

// P12.1: of the zero peer, and by the zero packet.
func TestUpdateZero(t *testing.T) {
	if got := gather.Update(api.Peer{}, api.Packet{}); got != (api.Peer{}) {
		t.Errorf("of nothing: %v", got)
	}
	if got := gather.Update(known(), api.Packet{}); got != known() {
		t.Errorf("by the zero packet: %v", got)
	}
	p := says()
	if got := gather.Update(api.Peer{}, p); got != peerOf(saidBy(p)) {
		t.Errorf("by the first packet: %v", got)
	}
}

// P12.2: promises below, the same and above, apart in one number alone.
func TestAdoptPromises(t *testing.T) {
	mid := api.Id{Epoch: 4, Coord: 3, Inc: 6}
	for _, mine := range kin(mid) {
		for _, other := range kin(mid) {
			p := api.Packet{Promise: other, Wanted: crowd(255)}
			if got := gather.Adopt(mine, 2, 23, p); got != over(three(other), three(mine)) {
				t.Errorf("promised %v, told %v: %v", mine, other, got)
			}
			p.Wanted[2] = 0
			if gather.Adopt(mine, 2, 23, p) {
				t.Errorf("promised %v, told %v, without it", mine, other)
			}
		}
	}
}

// P12.2: Wanted with self, without it and with another incarnation of it.
func TestAdoptWanted(t *testing.T) {
	incs := []uint32{0, 1, 2, 1 << 31, most32 - 1, most32}
	low, mid, high := api.Id{Epoch: 1}, api.Id{Epoch: 1, Inc: 1}, api.Id{Epoch: 1, Coord: 1}
	for self := range api.Daemons {
		for _, inc := range incs {
			for _, there := range incs {
				for _, rest := range []api.Members{crowd(255), {}, {inc, inc, inc, inc, inc, inc, inc, inc}} {
					p := api.Packet{From: 1, Inc: inc, Wanted: rest, Members: api.Members{inc, inc, inc, inc, inc, inc, inc, inc}}
					p.Wanted[self] = there
					was := p
					for _, promise := range []api.Id{low, mid, high} {
						p.Promise = promise
						want := promise == high && inc != 0 && there == inc
						if got := gather.Adopt(mid, self, inc, p); got != want {
							t.Errorf("daemon %d, %d: promised %v, told %v for %v: %v", self, inc, mid, promise, p.Wanted, got)
						}
					}
					if p.Promise = was.Promise; p != was {
						t.Errorf("what was given became %v", p)
					}
				}
			}
		}
	}
}

// P12.2: what a packet says of other things is of no moment.
func TestAdoptHeedsNoMore(t *testing.T) {
	r := rand.New(rand.NewSource(122))
	yes := 0
	for range 5000 {
		f, mine := drawnFact(r), drawnId(r)
		p := loud(packetOf(f), r)
		self, inc := r.Intn(8), uint32(r.Intn(3))
		want := over(f.promise, three(mine)) && inc > 0 && p.Wanted[self] == inc
		if got := gather.Adopt(mine, self, inc, p); got != want {
			t.Fatalf("Adopt(%v, %d, %d, %v) is %v", mine, self, inc, p, got)
		}
		if want {
			yes++
		}
	}
	if yes < 300 {
		t.Errorf("%d were adopted: too few to tell", yes)
	}
}

// P12.2, P1: a daemon that is none is in no Wanted.
func TestAdoptWrong(t *testing.T) {
	for _, self := range strangers {
		for _, inc := range []uint32{0, 1, most32} {
			for _, wanted := range []api.Members{{}, {inc, inc, inc, inc, inc, inc, inc, inc}} {
				for _, promise := range []api.Id{{}, {Epoch: 1}, {Epoch: most32, Coord: most32, Inc: most32}} {
					ends(t, "Adopt", func() {
						p := api.Packet{Promise: promise, Wanted: wanted}
						if gather.Adopt(api.Id{}, self, inc, p) {
							t.Errorf("daemon %d, %d adopts %v", self, inc, p)
						}
					})
				}
			}
		}
	}
}
