package daemon_test

import (
	"fmt"
	"math"
	"math/rand"
	"strings"

	"congress/api"
)

// oddNumbers are sessions, handles and numbers of that kind, at their edges.
var oddNumbers = []uint64{0, 1, 2, 9, 255, 256, 65535, 65536, 1<<32 - 1, 1 << 32, 1<<32 + 1, 1<<63 - 1, 1 << 63, 1<<63 + 1, math.MaxUint64}

// oddRequests are requests that say nothing, or what looks like one.
var oddRequests = []string{"", " ", "nothing", "open ", "open 1", "close", "close 09", "mint 9 0", "revoke 9", "join 9 8", "leave 9", "send 9 1 safe hi", "send 9 1 =hi", "\x00", "\xff\xff", "open\n"}

// pick is one of some.
func pick[E any](r *rand.Rand, some []E) E { return some[r.Intn(len(some))] }

// some is up to as many, drawn one by one.
func some[E any](r *rand.Rand, n int, draw func(*rand.Rand) E) []E {
	var l []E
	for range r.Intn(n + 1) {
		l = append(l, draw(r))
	}
	return l
}

// drawnInt is a small number for the most part.
func drawnInt(r *rand.Rand) int {
	if r.Intn(16) == 0 {
		return pick(r, oddInts)
	}
	return r.Intn(3)
}

func drawnNumber(r *rand.Rand) uint64 {
	if r.Intn(16) == 0 {
		return pick(r, oddNumbers)
	}
	return uint64(r.Intn(3))
}

func drawnRound(r *rand.Rand) uint32 {
	if r.Intn(16) == 0 {
		return pick(r, []uint32{0, 1, 255, 256, 1 << 31, most32 - 1, most32})
	}
	return uint32(r.Intn(4))
}

func drawnId(r *rand.Rand) api.Id {
	return api.Id{Epoch: drawnRound(r), Coord: uint32(r.Intn(2)), Inc: 1 + uint32(r.Intn(2))}
}

func drawnMembers(r *rand.Rand) api.Members {
	var m api.Members
	for daemon := range m {
		if daemon < 2 && r.Intn(8) > 0 || r.Intn(4) == 0 {
			m[daemon] = 1 + uint32(r.Intn(4)/3)
		}
	}
	return m
}

// drawnCounts are counts near one another, for the most part.
func drawnCounts(r *rand.Rand) api.Counts {
	var c api.Counts
	base := drawnRound(r)
	for daemon := range c {
		c[daemon] = base + uint32(r.Intn(3)/2)
		if r.Intn(12) == 0 {
			c[daemon] = drawnRound(r)
		}
	}
	return c
}

// drawnEntry is one that may be for the most part, or nothing.
func drawnEntry(r *rand.Rand) api.Entry {
	e := pick(r, []api.Entry{join(drawnNumber(r), r.Intn(2)), leave(drawnNumber(r), r.Intn(2)), message(r.Intn(4), drawnNumber(r), drawnNumber(r), r.Intn(2), pick(r, []string{"", "a", "hi\x00", "\xff"}))})
	switch r.Intn(20) {
	case 0, 1, 2:
		return api.Entry{}
	case 3:
		e.Kind = pick(r, oddInts)
	case 4:
		e.Service = pick(r, oddInts)
	case 5:
		e.Group = pick(r, oddInts)
	case 6:
		e.Text = strings.Repeat("long", r.Intn(20))
	}
	return e
}

func drawnFrame(r *rand.Rand) api.Frame {
	var f api.Frame
	for tenant := range f {
		f[tenant] = [2]api.Entry{drawnEntry(r), drawnEntry(r)}
	}
	return f
}

// drawnLane is one to which, as a rule, no calls lead: its lists are in any order,
// and what one of them says need not fit what another one does.
func drawnLane(r *rand.Rand, tenant int, c api.Core) api.Lane {
	guest := func(r *rand.Rand) api.Member {
		if r.Intn(3) > 0 {
			return api.Member{Group: r.Intn(2), Daemon: c.Self, Session: drawnNumber(r)}
		}
		return api.Member{Group: drawnInt(r), Daemon: drawnInt(r), Session: drawnNumber(r)}
	}
	l := api.Lane{
		Tenant: tenant, Daemon: c.Self, Used: r.Intn(4), Turn: drawnNumber(r), Views: drawnNumber(r),
		Draws:  some(r, 4, drawnNumber),
		Roster: api.Roster{Last: drawnNumber(r), List: some(r, 4, func(r *rand.Rand) api.Session { return api.Session{Id: drawnNumber(r), Number: drawnNumber(r)} })},
		Rights: some(r, 6, func(r *rand.Rand) api.Right {
			return api.Right{Handle: drawnNumber(r), Session: drawnNumber(r), Give: 1 + r.Intn(7), Revoked: r.Intn(6) == 0}
		}),
		Wanted:  some(r, 5, guest),
		Control: some(r, 4, drawnEntry), Waiting: some(r, 9, drawnEntry),
		Table: some(r, 8, guest),
		Queue: some(r, 8, func(r *rand.Rand) api.Wait {
			from := r.Intn(3)
			return api.Wait{Place: api.Place{Round: c.Count[from] + uint32(r.Intn(3)) - 1, From: from, Slot: r.Intn(2)}, Entry: drawnEntry(r)}
		}),
		Conf: c.Conf, Members: c.Members,
		Audit: some(r, 3, func(r *rand.Rand) api.Record {
			return api.Record{Number: drawnNumber(r), Tick: drawnRound(r), Call: pick(r, oddRequests), Code: api.Errno(drawnInt(r))}
		}),
	}
	switch r.Intn(12) {
	case 0:
		l.Tenant = drawnInt(r)
	case 1:
		l.Daemon = drawnInt(r)
	case 2:
		l.Used = pick(r, oddInts)
	case 3:
		l.Conf, l.Members = drawnId(r), drawnMembers(r)
	}
	return l
}

// drawnCore is a core in the midst of something: it sends, or takes frames, or
// gathers, or is just about to install.
func drawnCore(r *rand.Rand) api.Core {
	c := api.Core{Self: r.Intn(3), Own: 1, Wait: 1 + r.Intn(4)}
	c.Now = drawnRound(r) + 5
	c.Members, c.Count, c.Epoch = drawnMembers(r), drawnCounts(r), drawnRound(r)
	c.Conf, c.Ready = drawnId(r), r.Intn(3) == 0
	c.Members[c.Self] = c.Own
	c.Promise, c.Wanted, c.Cut = c.Conf, c.Members, c.Count
	if r.Intn(3) == 0 {
		c.Count[c.Self] += 3
	}
	if r.Intn(2) == 0 {
		c.Promise, c.Wanted = drawnId(r), drawnMembers(r)
		c.Wanted[c.Self] = c.Own
		c.Epoch = max(c.Epoch, c.Promise.Epoch)
	}
	alike := r.Intn(8) > 0
	for daemon := range c.Peers {
		c.Peers[daemon] = api.Peer{Inc: c.Wanted[daemon], Conf: c.Conf, Promise: c.Promise, Cut: c.Cut, Ready: true}
		c.Heard[daemon], c.Beat.Inc[daemon] = c.Now, c.Wanted[daemon]
		if !alike && r.Intn(3) == 0 {
			c.Peers[daemon] = api.Peer{Inc: drawnRound(r), Conf: drawnId(r), Promise: drawnId(r), Cut: drawnCounts(r), Ready: r.Intn(2) == 0}
			c.Heard[daemon], c.Beat.Inc[daemon] = drawnRound(r), drawnRound(r)
		}
		if c.Wanted[daemon] == 0 {
			c.Heard[daemon] = 0
		}
	}
	c.Kept = some(r, 5, func(r *rand.Rand) api.Kept {
		from := r.Intn(8)
		return api.Kept{From: from, Round: c.Count[from] - uint32(r.Intn(3)), Frame: drawnFrame(r)}
	})
	switch r.Intn(20) {
	case 0:
		c.Self = pick(r, oddInts)
	case 1:
		c.Own = drawnRound(r)
	case 2:
		c.Wait = pick(r, oddInts)
	case 3:
		c.Kept = append(c.Kept, api.Kept{From: pick(r, oddInts), Round: drawnRound(r)})
	case 4:
		c.Members = drawnMembers(r)
	case 5:
		c.Now = drawnRound(r)
	}
	return c
}

// drawnDaemon is one to which, as a rule, no calls lead.
func drawnDaemon(r *rand.Rand) api.Daemon {
	d := api.Daemon{Core: drawnCore(r)}
	for tenant := range d.Lanes {
		d.Lanes[tenant] = drawnLane(r, tenant, d.Core)
	}
	if r.Intn(8) == 0 {
		r.Shuffle(3, func(i, j int) { d.Lanes[i], d.Lanes[j] = d.Lanes[j], d.Lanes[i] })
	}
	return d
}

// drawnPacket is a packet that comes to a core, with frames that are next, for the
// most part.
func drawnPacket(r *rand.Rand, c api.Core) api.Packet {
	from := r.Intn(8)
	p := api.Packet{
		From: uint32(from), Inc: max(c.Beat.Inc[from], 1), Conf: c.Conf, Members: c.Members, Count: c.Count,
		Promise: c.Promise, Wanted: c.Wanted, Ready: r.Intn(2) == 0, Epoch: c.Epoch,
		Round: c.Count[from] + uint32(1+r.Intn(2)), Older: drawnFrame(r), Newest: drawnFrame(r), Relay: drawnFrame(r),
	}
	p.RelayOf = uint32(r.Intn(8))
	p.RelayRound = c.Count[p.RelayOf] + 1
	if r.Intn(2) == 0 {
		p.Count[from], p.Count[p.RelayOf] = p.Round, p.RelayRound
	}
	switch r.Intn(20) {
	case 0:
		p.From = drawnRound(r) + 7
	case 1:
		p.From, p.Inc = uint32(c.Self), c.Own
	case 2:
		p.Inc = drawnRound(r)
	case 3:
		p.Conf = drawnId(r)
	case 4, 5:
		p.Promise.Epoch++
	case 6:
		p.Wanted = drawnMembers(r)
	case 7:
		p.Round = drawnRound(r)
	case 8:
		p.RelayOf, p.RelayRound = drawnRound(r)+6, drawnRound(r)
	case 9:
		p.Count = drawnCounts(r)
	}
	return p
}

// drawnRequest is one with a handle of the lane's, for the most part.
func drawnRequest(r *rand.Rand, l api.Lane) string {
	handle := func() uint64 {
		if len(l.Rights) > 0 && r.Intn(8) > 0 {
			return pick(r, l.Rights).Handle
		}
		return drawnNumber(r)
	}
	switch r.Intn(24) {
	case 0, 1, 2:
		return "open"
	case 3:
		return fmt.Sprintf("close %d", handle())
	case 4, 5:
		return fmt.Sprintf("mint %d %d", handle(), r.Intn(7)+1)
	case 6:
		return fmt.Sprintf("revoke %d %d", handle(), handle())
	case 7, 8, 9, 10:
		return fmt.Sprintf("join %d %d", handle(), r.Intn(2))
	case 11, 12:
		return fmt.Sprintf("leave %d %d", handle(), r.Intn(2))
	case 13:
		return pick(r, oddRequests)
	}
	return fmt.Sprintf("send %d %d %s =%x", handle(), r.Intn(2), pick(r, []string{"fifo", "causal", "agreed", "safe"}), r.Intn(1<<20))
}
