package core_test

import (
	"math/rand"

	"congress/api"
)

// drawnNumber is a small number, or now and then one at the ends.
func drawnNumber(r *rand.Rand, below int) uint32 {
	switch r.Intn(24) {
	case 0:
		return most32
	case 1:
		return most32 - 1
	}
	return uint32(r.Intn(below))
}

// drawnId is one of few Ids.
func drawnId(r *rand.Rand) api.Id {
	return api.Id{Epoch: drawnNumber(r, 3), Coord: uint32(r.Intn(2)), Inc: 1 + uint32(r.Intn(2))}
}

func drawnMembers(r *rand.Rand) api.Members {
	var m api.Members
	for daemon := range m {
		if r.Intn(3) == 0 {
			m[daemon] = 1 + uint32(r.Intn(4)/3)
		}
	}
	return m
}

func drawnCounts(r *rand.Rand) api.Counts {
	var c api.Counts
	base := drawnNumber(r, 4)
	for daemon := range c {
		c[daemon] = base
		switch r.Intn(4) {
		case 0:
			c[daemon] = base + uint32(r.Intn(2)) - uint32(r.Intn(2))
		case 1:
			c[daemon] = drawnNumber(r, 4)
		}
	}
	return c
}

func drawnKept(r *rand.Rand, count api.Counts) []api.Kept {
	var l []api.Kept
	for range r.Intn(6) {
		from := r.Intn(8)
		k := api.Kept{From: from, Round: count[from] - uint32(r.Intn(4)), Frame: drawnFrame(r)}
		switch r.Intn(12) {
		case 0:
			k.From = strangers[r.Intn(len(strangers))]
		case 1:
			k.Round = drawnNumber(r, 6)
		}
		l = append(l, k)
	}
	switch r.Intn(3) {
	case 0:
		return loose(l)
	case 1:
		return append([]api.Kept{}, l...)
	}
	return l
}

// drawnCore is a core in the midst of something, such that in each way it may be
// so, or just not.
func drawnCore(r *rand.Rand) api.Core {
	c := api.Core{Self: r.Intn(3), Own: 1, Wait: r.Intn(4)}
	if r.Intn(12) == 0 {
		c.Self, c.Own, c.Wait = r.Intn(8), drawnNumber(r, 3), r.Int()-r.Int()
	}
	c.Now = drawnNumber(r, 6)
	c.Members, c.Count, c.Epoch = drawnMembers(r), drawnCounts(r), drawnNumber(r, 4)
	if c.Count[c.Self] < 9 && r.Intn(3) == 0 {
		c.Count[c.Self] += 3
	}
	c.Kept = drawnKept(r, c.Count)
	c.Conf, c.Cut, c.Ready = drawnId(r), c.Count, r.Intn(3) == 0
	c.Promise, c.Wanted = c.Conf, c.Members
	if r.Intn(8) > 0 {
		c.Members[c.Self], c.Wanted[c.Self] = c.Own, c.Own
	}
	if r.Intn(3) > 0 {
		c.Promise = drawnId(r)
	}
	if r.Intn(3) == 0 {
		c.Wanted = drawnMembers(r)
	}
	if r.Intn(3) == 0 {
		c.Cut = drawnCounts(r)
	}
	alike := r.Intn(4)
	for daemon := range c.Peers {
		c.Peers[daemon] = drawnPeer(r, c, daemon, alike)
		c.Heard[daemon], c.Beat.Inc[daemon] = c.Now, c.Members[daemon]
		if c.Members[daemon] == 0 {
			c.Heard[daemon] = 0
		}
		if r.Intn(6) > alike {
			c.Heard[daemon], c.Beat.Inc[daemon] = drawnNumber(r, 6), uint32(r.Intn(3))
		}
	}
	return c
}

// drawnPeer is what a core knows of a daemon: the more alike, the more it is as
// the core wants it.
func drawnPeer(r *rand.Rand, c api.Core, daemon, alike int) api.Peer {
	x := api.Peer{Inc: c.Wanted[daemon], Conf: c.Conf, Promise: c.Promise, Cut: c.Cut, Ready: true}
	off := func() bool { return r.Intn(6*alike+2) == 0 }
	if off() {
		x.Inc = uint32(r.Intn(3))
	}
	if off() {
		x.Conf = drawnId(r)
	}
	if off() {
		x.Promise = drawnId(r)
	}
	if off() {
		x.Cut = drawnCounts(r)
	}
	x.Ready = !off()
	return x
}

// drawnPacket is a packet that comes to a core, of somebody like those whom it
// knows.
func drawnPacket(r *rand.Rand, c api.Core) api.Packet {
	from := r.Intn(8)
	x := drawnPeer(r, c, from, 2)
	p := api.Packet{From: uint32(from), Inc: x.Inc, Conf: x.Conf, Members: c.Members, Count: x.Cut, Promise: x.Promise, Wanted: c.Wanted, Ready: x.Ready, Epoch: drawnNumber(r, 4)}
	if r.Intn(3) > 0 {
		p.Inc = max(x.Inc, c.Beat.Inc[from], 1)
	}
	if r.Intn(3) == 0 {
		p.Promise.Epoch += uint32(r.Intn(2))
	}
	if r.Intn(4) == 0 {
		p.Wanted = drawnMembers(r)
		p.Wanted[c.Self&7] = c.Own
	}
	if r.Intn(2) == 0 {
		p.Conf = c.Conf
		for daemon := range p.Count {
			p.Count[daemon] = c.Count[daemon] + uint32(r.Intn(3))
		}
	}
	p.Round, p.Newest, p.Older = c.Count[from]+uint32(r.Intn(4))-1, drawnFrame(r), drawnFrame(r)
	p.RelayOf = uint32(r.Intn(8))
	p.RelayRound, p.Relay = c.Count[p.RelayOf]+uint32(1+r.Intn(6)/4-r.Intn(6)/5), drawnFrame(r)
	switch r.Intn(30) {
	case 0:
		p.From = 8 + drawnNumber(r, 2)
	case 1:
		p.RelayOf = 8 + drawnNumber(r, 2)
	case 2:
		p.Inc = 0
	case 3:
		p.From, p.Inc = uint32(c.Self), c.Own
	case 4:
		p.Round = drawnNumber(r, 3)
	}
	return p
}

// drawnClose is a core that gathers, with a packet by which it would install what
// it has promised, but for some things that are drawn.
func drawnClose(r *rand.Rand) (api.Core, api.Packet) {
	c, p := gathering(), letter()
	p.Promise, p.Wanted, p.Count, p.Round, p.Ready = c.Promise, c.Wanted, c.Peers[5].Cut, 6, true
	c.Peers[2].Ready = true
	one := func() uint32 { return uint32(r.Intn(3)) - 1 }
	turns := []func(){
		func() { c.Ready = true },
		func() { p.Ready = false },
		func() { c.Peers[2].Ready = false },
		func() { p.Round += one() },
		func() { p.RelayRound += one() },
		func() { p.RelayOf = uint32(r.Intn(9)) },
		func() { p.From = uint32(r.Intn(9)) },
		func() { p.Inc += one() },
		func() { p.Epoch = drawnNumber(r, 12) },
		func() { p.Conf.Epoch += one() },
		func() { c.Conf.Epoch += one() },
		func() { p.Promise.Epoch += one() },
		func() { c.Promise = c.Conf },
		func() { c.Promise.Epoch-- },
		func() { c.Peers[2].Promise.Epoch += one() },
		func() { c.Peers[5].Promise = c.Conf },
		func() { c.Peers[5].Inc -= uint32(r.Intn(2)) },
		func() { c.Count[r.Intn(8)] += one() },
		func() { c.Cut[r.Intn(8)] += one() },
		func() { p.Count[r.Intn(8)] += one() },
		func() { c.Peers[2].Cut[r.Intn(8)] += one() },
		func() { c.Wanted[r.Intn(8)] += one() },
		func() { p.Wanted[r.Intn(8)] += one() },
		func() { c.Members[r.Intn(8)] += one() },
		func() { c.Self = r.Intn(8) },
		func() { c.Own += one() },
		func() { c.Count[c.Self] += 4 },
	}
	for range r.Intn(4) {
		turns[r.Intn(len(turns))]()
	}
	return c, p
}
