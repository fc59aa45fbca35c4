package core_test

import (
	"math"
	"math/rand"
	"reflect"
	"slices"
	"testing"
	"time"

	"congress/api"
	"congress/core"
)

const most32 = math.MaxUint32

// strangers are numbers that are no daemon's.
var strangers = []int{-1, 8, math.MinInt, math.MaxInt, -8, 9, 1 << 32, 1<<32 + 3, -1 << 32, math.MinInt + 1, math.MaxInt - 1}

// An account of what the calls do, told without the program's packages but api,
// whose types it takes: of cores whose Self is 0 to 7.

// higher tells whether a is above b: the first number in which they are apart
// tells.
func higher(a, b api.Id) bool {
	return slices.Compare([]uint32{a.Epoch, a.Coord, a.Inc}, []uint32{b.Epoch, b.Coord, b.Inc}) > 0
}

// reached is whom a core reaches.
func reached(c api.Core) api.Members {
	var m api.Members
	wait := int64(c.Wait) & most32
	for daemon := range 8 {
		ago := int64(c.Now) - int64(c.Heard[daemon])
		if c.Heard[daemon] > 0 && ago >= 0 && ago <= wait {
			m[daemon] = c.Beat.Inc[daemon]
		}
	}
	m[c.Self] = c.Own
	return m
}

// beyond is how many of those who are reached have promised more than the core.
func beyond(c api.Core, reach api.Members) int {
	many := 0
	for daemon, inc := range reach {
		if inc > 0 && daemon != c.Self && c.Peers[daemon].Inc == inc && higher(c.Peers[daemon].Promise, c.Promise) {
			many++
		}
	}
	return many
}

// proposed is the configuration that a core proposes, if it does.
func proposed(c api.Core, reach api.Members) (api.Id, bool) {
	first := slices.IndexFunc(reach[:], func(inc uint32) bool { return inc > 0 })
	stands := c.Promise.Coord == uint32(c.Self) && c.Promise.Inc == c.Own && c.Wanted == reach && beyond(c, reach) == 0
	if first != c.Self || stands || c.Epoch == most32 {
		return api.Id{}, false
	}
	return api.Id{Epoch: c.Epoch + 1, Coord: uint32(c.Self), Inc: c.Own}, true
}

// standing is how far the others are: whether all have promised what the core
// has, whether all are ready for it, or have installed it, and what they have
// received together.
func standing(c api.Core) (all, done bool, target [8]uint32) {
	all, done, target = true, true, c.Cut
	for daemon, inc := range c.Wanted {
		x := c.Peers[daemon]
		switch {
		case inc == 0 || daemon == c.Self:
			continue
		case x.Inc != inc:
			all, done = false, false
			continue
		case x.Promise != c.Promise:
			all, done = false, done && x.Conf == c.Promise
			continue
		}
		done = done && (x.Ready || x.Conf == c.Promise)
		for of, n := range x.Cut {
			if x.Conf == c.Conf && target[of] < n {
				target[of] = n
			}
		}
	}
	return all, done, target
}

// promising is a core that has promised something just now.
func promising(c api.Core, id api.Id, wanted api.Members) api.Core {
	c.Promise, c.Wanted, c.Cut, c.Ready = id, wanted, c.Count, false
	return c
}

// goneOn is a core that goes on, and what it tells.
func goneOn(c api.Core, told []api.Happen) (api.Core, []api.Happen) {
	if c.Promise == c.Conf {
		return c, told
	}
	all, done, target := standing(c)
	lacks := false
	for daemon, n := range target {
		lacks = lacks || c.Count[daemon] < n
	}
	c.Ready = c.Ready || all && !lacks
	if !c.Ready || !done {
		return c, told
	}
	c.Conf, c.Members, c.Count, c.Cut, c.Kept, c.Ready = c.Promise, c.Wanted, api.Counts{}, api.Counts{}, nil, false
	return c, append(told, api.Happen{View: true, Conf: c.Conf, Members: c.Members})
}

// taking is a core that takes a frame, if it is a member's next one.
func taking(c api.Core, told []api.Happen, k api.Kept) (api.Core, []api.Happen) {
	if c.Members[k.From] == 0 || int64(k.Round) != int64(c.Count[k.From])+1 {
		return c, told
	}
	var l []api.Kept
	for _, old := range c.Kept {
		if old.From != k.From || int64(old.Round) > int64(k.Round)-3 {
			l = append(l, old)
		}
	}
	c.Kept = append(l, k)
	c.Count[k.From] = k.Round
	return c, append(told, api.Happen{Kept: k})
}

// ticked is an account of Tick.
func ticked(c api.Core, next api.Frame) (api.Core, bool, []api.Happen) {
	if c.Now != most32 {
		c.Now++
	}
	reach := reached(c)
	if c.Promise != c.Conf || reach != c.Members || beyond(c, reach) > 0 {
		if id, ok := proposed(c, reach); ok {
			c = promising(c, id, reach)
			c.Epoch = id.Epoch
		}
	}
	c, told := goneOn(c, nil)
	own := c.Count[c.Self]
	behind := c.Members[c.Self] == 0 || own == most32
	for daemon, inc := range c.Members {
		behind = behind || inc > 0 && c.Count[daemon] < own
	}
	if c.Promise != c.Conf || behind {
		return c, false, told
	}
	c, told = taking(c, told, api.Kept{From: c.Self, Round: own + 1, Frame: next})
	return c, true, told
}

// known is what is known of a daemon behind its packet.
func known(x api.Peer, p api.Packet) api.Peer {
	now := api.Peer{Inc: p.Inc, Conf: p.Conf, Promise: p.Promise, Cut: p.Count, Ready: p.Ready}
	if p.Inc > x.Inc || p.Inc == x.Inc && higher(p.Promise, x.Promise) {
		return now
	}
	if p.Inc < x.Inc || p.Promise != x.Promise {
		return x
	}
	now.Ready = now.Ready || x.Ready
	if higher(x.Conf, now.Conf) {
		now.Conf, now.Cut = x.Conf, x.Cut
	}
	for daemon := range 8 {
		if x.Conf == now.Conf && x.Cut[daemon] > now.Cut[daemon] {
			now.Cut[daemon] = x.Cut[daemon]
		}
	}
	return now
}

// offers are the frames of a packet, in order.
func offers(p api.Packet) []api.Kept {
	l := []api.Kept{
		{From: int(p.From), Round: p.Round - 1, Frame: p.Older},
		{From: int(p.From), Round: p.Round, Frame: p.Newest},
		{From: int(p.RelayOf), Round: p.RelayRound, Frame: p.Relay},
	}
	if p.Round < 2 {
		l = l[1:]
	}
	return slices.DeleteFunc(l, func(k api.Kept) bool { return k.From > 7 })
}

// received is an account of Receive.
func received(c api.Core, p api.Packet) (api.Core, bool, []api.Happen) {
	if p.From == uint32(c.Self) || p.From > 7 || p.Inc == 0 || c.Now == 0 || p.Inc < c.Beat.Inc[p.From] {
		return c, false, nil
	}
	c.Heard[p.From], c.Beat.Inc[p.From] = c.Now, p.Inc
	c.Peers[p.From] = known(c.Peers[p.From], p)
	for _, epoch := range []uint32{p.Epoch, p.Promise.Epoch} {
		if epoch > c.Epoch {
			c.Epoch = epoch
		}
	}
	if higher(p.Promise, c.Promise) && c.Own != 0 && p.Wanted[c.Self] == c.Own {
		c = promising(c, p.Promise, p.Wanted)
	}
	all, _, most := standing(c)
	open := all && !c.Ready
	if c.Promise == c.Conf {
		open = true
		for daemon := range most {
			most[daemon] = c.Count[c.Self]
		}
	}
	var told []api.Happen
	for _, k := range offers(p) {
		if open && p.Conf == c.Conf && k.Round <= most[k.From] {
			c, told = taking(c, told, k)
		}
	}
	c, told = goneOn(c, told)
	return c, true, told
}

// sending is an account of Packet.
func sending(c api.Core) api.Packet {
	p := api.Packet{From: uint32(c.Self), Inc: c.Own, Conf: c.Conf, Members: c.Members, Count: c.Count, Promise: c.Promise, Wanted: c.Wanted, Ready: c.Ready, Epoch: c.Epoch}
	if c.Conf != c.Promise {
		p.Count = c.Cut
	}
	p.Round = c.Count[c.Self]
	for _, k := range slices.Backward(c.Kept) {
		if k.From == c.Self && k.Round == p.Round {
			p.Newest = k.Frame
		}
		if k.From == c.Self && int64(k.Round) == int64(p.Round)-1 {
			p.Older = k.Frame
		}
	}
	if n := int64(len(c.Kept)); n > 0 {
		k := c.Kept[int64(c.Now)%n]
		p.RelayOf, p.RelayRound, p.Relay = uint32(k.From), k.Round, k.Frame
	}
	return p
}

// sameCore tells whether two cores are the same; an empty list is the same as a
// nil one.
func sameCore(a, b api.Core) bool {
	if !slices.Equal(a.Kept, b.Kept) {
		return false
	}
	a.Kept, b.Kept = nil, nil
	return reflect.DeepEqual(a, b)
}

// copied is a core that shares nothing with c, with the room behind its list.
func copied(c api.Core) api.Core {
	c.Kept = slices.Clone(c.Kept[:cap(c.Kept)])
	return c
}

// asItWas asks that a core is as it was, with the room behind its list.
func asItWas(t *testing.T, c, was api.Core) {
	t.Helper()
	c.Kept = c.Kept[:cap(c.Kept)]
	if !sameCore(c, was) {
		t.Fatalf("the core became %+v, was %+v", c, was)
	}
}

// scribble writes over a core's list, and over what was told, with the room
// behind them.
func scribble(c api.Core, told []api.Happen) {
	for i := range c.Kept[:cap(c.Kept)] {
		c.Kept[:cap(c.Kept)][i] = api.Kept{From: -9, Round: 77}
	}
	for i := range told[:cap(told)] {
		told[:cap(told)][i] = api.Happen{View: true, Kept: api.Kept{Round: 88}}
	}
}

// change is Tick or Receive, with what it is given beside the core.
type change func(api.Core) (api.Core, bool, []api.Happen)

// agree asks that a call says what the account of it says, that what was given
// is as it was, and that the answers are memory of their own.
func agree(t *testing.T, name string, c api.Core, call, account change) (api.Core, bool, []api.Happen) {
	t.Helper()
	was := copied(c)
	got, ok, told := call(c)
	want, does, tells := account(c)
	if !sameCore(got, want) || ok != does || !slices.Equal(told, tells) {
		t.Fatalf("%s of %+v:\nis  %+v, %v, %+v\nnot %+v, %v, %+v", name, c, got, ok, told, want, does, tells)
	}
	again, _, told2 := call(c)
	scribble(again, told2)
	asItWas(t, c, was)
	if !sameCore(got, want) || !slices.Equal(told, tells) {
		t.Fatalf("%s of %+v: one answer was changed by another one", name, c)
	}
	return got, ok, told
}

func agreeTick(t *testing.T, c api.Core, next api.Frame) (api.Core, bool, []api.Happen) {
	t.Helper()
	return agree(t, "Tick", c, func(c api.Core) (api.Core, bool, []api.Happen) {
		return core.Tick(c, next)
	}, func(c api.Core) (api.Core, bool, []api.Happen) {
		return ticked(c, next)
	})
}

func agreeReceive(t *testing.T, c api.Core, p api.Packet) (api.Core, bool, []api.Happen) {
	t.Helper()
	was := p
	got, ok, told := agree(t, "Receive", c, func(c api.Core) (api.Core, bool, []api.Happen) {
		return core.Receive(c, p)
	}, func(c api.Core) (api.Core, bool, []api.Happen) {
		return received(c, p)
	})
	if p != was {
		t.Fatalf("the packet became %+v, was %+v", p, was)
	}
	return got, ok, told
}

func agreePacket(t *testing.T, c api.Core) api.Packet {
	t.Helper()
	was := copied(c)
	got := core.Packet(c)
	if want := sending(c); got != want {
		t.Fatalf("Packet of %+v:\nis  %+v\nnot %+v", c, got, want)
	}
	if core.Gathers(c) != (c.Promise != c.Conf) {
		t.Fatalf("Gathers of %v, %v: %v", c.Conf, c.Promise, core.Gathers(c))
	}
	asItWas(t, c, was)
	return got
}

// page is a frame with a number in it, by which it is known.
func page(n int) api.Frame {
	var f api.Frame
	f[n%3][n%2] = api.Entry{Kind: api.EntSend, Group: 1, Session: 2, Number: uint64(n) + 1, Text: "page"}
	return f
}

// loose is a list with room behind it, in which something stands.
func loose(l []api.Kept) []api.Kept {
	room := append(slices.Clone(l), api.Kept{From: 1, Round: 5, Frame: page(41)}, api.Kept{From: 2, Round: 6, Frame: page(42)})
	return room[:len(l)]
}

// drawnFrame is a frame, now and then with what may not stand in one.
func drawnFrame(r *rand.Rand) api.Frame {
	f := page(r.Intn(100))
	if r.Intn(3) == 0 {
		f[r.Intn(3)][r.Intn(2)] = api.Entry{Kind: r.Int() - r.Int(), Service: -1, Group: 99, Number: r.Uint64(), Text: "a text that is longer than an entry's"}
	}
	if r.Intn(5) == 0 {
		return api.Frame{}
	}
	return f
}

// ends asks that a call ends, without a panic.
func ends(t *testing.T, name string, call func()) {
	t.Helper()
	done := make(chan any)
	go func() {
		defer func() { done <- recover() }()
		call()
	}()
	select {
	case what := <-done:
		if what != nil {
			t.Fatalf("%s: a panic: %v", name, what)
		}
	case <-time.After(time.Minute):
		t.Fatalf("%s does not end", name)
	}
}
