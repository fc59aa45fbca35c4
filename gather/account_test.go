package gather_test

import (
	"math"
	"math/rand"
	"reflect"
	"slices"
	"testing"
	"time"

	"congress/api"
	"congress/gather"
)

const most32 = math.MaxUint32

// strangers are numbers that are no daemon's.
var strangers = []int{-1, 8, math.MinInt, math.MaxInt, -8, 9, 1 << 32, 1<<32 + 3, -1 << 32, math.MinInt + 1, math.MaxInt - 1}

// choices are members with none, one, some and all, as crowd tells them.
var choices = []int{0, 1, 1 << 3, 1 << 7, 1 | 1<<7, 1<<2 | 1<<5, 127, 254, 255}

// some are the first daemon, one in the middle, and the last one.
var some = []int{0, 4, 7}

// fact is what is known of a daemon, told without the program's packages: of an
// Id its epoch, its coordinator and that one's incarnation.
type fact struct {
	inc           uint32
	conf, promise [3]uint32
	cut           [8]uint32
	ready         bool
}

// state is what the calls heed of a core, told in the same way.
type state struct {
	self          int
	own, epoch    uint32
	conf, promise [3]uint32
	wanted, cut   [8]uint32
	peers         [8]fact
}

func three(id api.Id) [3]uint32 {
	return [3]uint32{id.Epoch, id.Coord, id.Inc}
}

func idOf(l [3]uint32) api.Id {
	return api.Id{Epoch: l[0], Coord: l[1], Inc: l[2]}
}

func factOf(x api.Peer) fact {
	return fact{x.Inc, three(x.Conf), three(x.Promise), x.Cut, x.Ready}
}

func peerOf(f fact) api.Peer {
	return api.Peer{Inc: f.inc, Conf: idOf(f.conf), Promise: idOf(f.promise), Cut: f.cut, Ready: f.ready}
}

// packetOf is a packet that tells a fact, and nothing else.
func packetOf(f fact) api.Packet {
	return api.Packet{Inc: f.inc, Conf: idOf(f.conf), Promise: idOf(f.promise), Count: f.cut, Ready: f.ready}
}

// saidBy is the fact that a packet tells.
func saidBy(p api.Packet) fact {
	return fact{p.Inc, three(p.Conf), three(p.Promise), p.Count, p.Ready}
}

func stateOf(c api.Core) state {
	s := state{c.Self, c.Own, c.Epoch, three(c.Conf), three(c.Promise), c.Wanted, c.Cut, [8]fact{}}
	for daemon, x := range c.Peers {
		s.peers[daemon] = factOf(x)
	}
	return s
}

// over tells whether a is above b: the first number in which they are apart
// tells.
func over(a, b [3]uint32) bool {
	for i := range a {
		if a[i] != b[i] {
			return a[i] > b[i]
		}
	}
	return false
}

// learned is an account of what is known of a daemon of which some facts were
// told, all at once: of the highest incarnation the highest promise, of that the
// highest configuration, with the greatest counts that were told in it; and
// whether it was told to be ready with that promise.
func learned(l []fact) fact {
	var sum fact
	for _, f := range l {
		sum.inc = max(sum.inc, f.inc)
	}
	l = slices.DeleteFunc(slices.Clone(l), func(f fact) bool { return f.inc != sum.inc })
	for _, f := range l {
		if over(f.promise, sum.promise) {
			sum.promise = f.promise
		}
	}
	l = slices.DeleteFunc(l, func(f fact) bool { return f.promise != sum.promise })
	for _, f := range l {
		sum.ready = sum.ready || f.ready
		if over(f.conf, sum.conf) {
			sum.conf = f.conf
		}
	}
	for _, f := range l {
		for daemon, n := range f.cut {
			if f.conf == sum.conf {
				sum.cut[daemon] = max(sum.cut[daemon], n)
			}
		}
	}
	return sum
}

// heeded is all of the others of which the core knows something that counts, and
// how many others there are.
func (s state) heeded() ([]fact, int) {
	var l []fact
	many := 0
	for daemon, inc := range s.wanted {
		if inc == 0 || daemon == s.self {
			continue
		}
		many++
		if s.peers[daemon].inc == inc {
			l = append(l, s.peers[daemon])
		}
	}
	return l, many
}

// all is an account of All.
func (s state) all() bool {
	l, many := s.heeded()
	for _, f := range l {
		if f.promise == s.promise {
			many--
		}
	}
	return many == 0
}

// done is an account of Done.
func (s state) done() bool {
	l, many := s.heeded()
	for _, f := range l {
		installed := f.conf == s.promise
		if installed || f.ready && f.promise == s.promise {
			many--
		}
	}
	return many == 0
}

// target is an account of Target.
func (s state) target() [8]uint32 {
	sum := s.cut
	l, _ := s.heeded()
	for _, f := range l {
		for daemon, n := range f.cut {
			if f.conf == s.conf && f.promise == s.promise && n > sum[daemon] {
				sum[daemon] = n
			}
		}
	}
	return sum
}

// proposes is an account of Propose.
func (s state) proposes(reach [8]uint32) ([3]uint32, bool) {
	least := slices.IndexFunc(reach[:], func(inc uint32) bool { return inc > 0 })
	if least < 0 || least != s.self || s.epoch == most32 {
		return [3]uint32{}, false
	}
	mine := s.promise[1] == uint32(least) && s.promise[2] == s.own && s.wanted == reach
	for daemon, f := range s.peers {
		if daemon != least && reach[daemon] > 0 && f.inc == reach[daemon] && over(f.promise, s.promise) {
			mine = false
		}
	}
	if mine {
		return [3]uint32{}, false
	}
	return [3]uint32{s.epoch + 1, uint32(least), s.own}, true
}

// agreeUpdate asks that Update says what the account says of both.
func agreeUpdate(t *testing.T, x api.Peer, p api.Packet) api.Peer {
	t.Helper()
	x0, p0 := x, p
	got := gather.Update(x, p)
	if want := peerOf(learned([]fact{factOf(x), saidBy(p)})); got != want {
		t.Fatalf("Update(%v, %v) is %v, not %v", x, saidBy(p), got, want)
	}
	if x != x0 || p != p0 {
		t.Fatalf("what was given became %v, %v", x, p)
	}
	return got
}

// agreePropose asks that Propose says what the account says.
func agreePropose(t *testing.T, c api.Core, reach api.Members) (api.Id, bool) {
	t.Helper()
	was := copied(c)
	got, ok := gather.Propose(c, reach)
	if want, does := stateOf(c).proposes(reach); got != idOf(want) || ok != does {
		t.Fatalf("Propose(%+v, %v) is %v, %v, not %v, %v", stateOf(c), reach, got, ok, want, does)
	}
	same(t, c, was)
	return got, ok
}

// answers is what All, Target and Done tell.
type answers struct {
	all    bool
	target api.Counts
	done   bool
}

// agree asks that All, Target and Done say what the account says.
func agree(t *testing.T, c api.Core) answers {
	t.Helper()
	was, s := copied(c), stateOf(c)
	got := answers{gather.All(c), gather.Target(c), gather.Done(c)}
	if want := (answers{s.all(), s.target(), s.done()}); got != want {
		t.Fatalf("of %+v: %v, not %v", s, got, want)
	}
	same(t, c, was)
	return got
}

// copied is a core that shares nothing with c, with the room behind its list.
func copied(c api.Core) api.Core {
	c.Kept = slices.Clone(c.Kept[:cap(c.Kept)])
	return c
}

// same asks that a core is as it was, with the room behind its list.
func same(t *testing.T, c, was api.Core) {
	t.Helper()
	if !slices.Equal(c.Kept[:cap(c.Kept)], was.Kept) {
		t.Fatalf("the frames became %v", c.Kept)
	}
	c.Kept, was.Kept = nil, nil
	if !reflect.DeepEqual(c, was) {
		t.Fatalf("the core became %v, was %v", c, was)
	}
}

// crowd is the members that the bits of a choice tell, each with an incarnation
// of its own.
func crowd(choice int) api.Members {
	var m api.Members
	for daemon := range m {
		if choice>>daemon&1 != 0 {
			m[daemon] = uint32(daemon) + 21
		}
	}
	return m
}

// kin is an Id, the ones that are apart from it in one number alone, just below,
// just above and at the ends, and the zero one.
func kin(id api.Id) []api.Id {
	l := []api.Id{id, {}}
	for i := range 3 {
		here := three(id)[i]
		for _, n := range []uint32{0, here - 1, here + 1, most32} {
			other := three(id)
			other[i] = n
			if !slices.Contains(l, idOf(other)) {
				l = append(l, idOf(other))
			}
		}
	}
	return l
}

// loud is a packet with something in all fields that tell nothing of a fact.
func loud(p api.Packet, r *rand.Rand) api.Packet {
	p.From, p.Epoch, p.Round = r.Uint32()%9, r.Uint32(), r.Uint32()
	p.RelayOf, p.RelayRound = r.Uint32()%9, r.Uint32()
	for daemon := range p.Members {
		p.Members[daemon], p.Wanted[daemon] = r.Uint32()%3, r.Uint32()%3
	}
	p.Newest[1][0] = api.Entry{Kind: api.EntSend, Session: r.Uint64(), Text: "new"}
	p.Older[2][1] = api.Entry{Kind: api.EntJoin, Number: r.Uint64(), Text: "old"}
	p.Relay[0][1] = api.Entry{Kind: api.EntLeave, Group: 3, Text: "relay"}
	return p
}

// busy is a core with something in all fields that the calls do not heed.
func busy(c api.Core, r *rand.Rand) api.Core {
	c.Wait, c.Ready = r.Int()-r.Int(), r.Intn(2) == 0
	c.Now = r.Uint32()
	for daemon := range c.Members {
		c.Heard[daemon], c.Beat.Inc[daemon] = r.Uint32(), r.Uint32()%3
		c.Members[daemon], c.Count[daemon] = r.Uint32()%3, r.Uint32()
	}
	c.Kept = make([]api.Kept, r.Intn(3), 4)
	for i := range c.Kept[:cap(c.Kept)] {
		c.Kept[:cap(c.Kept)][i] = api.Kept{From: r.Intn(8), Round: r.Uint32()}
	}
	return c
}

// ends asks that a call ends, without a panic.
func ends(t *testing.T, name string, call func()) {
	t.Helper()
	done := make(chan any)
	go func() {
		defer func() { done <- recover() }()
		call()
	}()
	select {
	case what := <-done:
		if what != nil {
			t.Fatalf("%s: a panic: %v", name, what)
		}
	case <-time.After(time.Minute):
		t.Fatalf("%s does not end", name)
	}
}
