package daemon_test

import (
	"fmt"
	"math/rand"
	"slices"
	"strings"
	"testing"

	"congress/api"
	"congress/core"
	"congress/packet"
)

// three is daemon 0 of a configuration of three, ahead of the others' frames; each
// of its tenants has a session in group 1, beside one of daemon 1.
func three(t *testing.T) api.Daemon {
	t.Helper()
	d := started(t, 0, []uint64{10}, []uint64{11}, []uint64{12})
	d.Members, d.Conf, d.Epoch, d.Now = api.Members{1, 2, 3}, api.Id{Epoch: 5, Coord: 2, Inc: 3}, 5, 30
	d.Promise, d.Wanted, d.Count = d.Conf, d.Members, api.Counts{9, 3, 3}
	for daemon := range 3 {
		d.Heard[daemon], d.Beat.Inc[daemon] = 30, d.Members[daemon]
		d.Peers[daemon] = api.Peer{Inc: d.Members[daemon], Conf: d.Conf, Promise: d.Conf}
	}
	for tenant, handle := range []string{"10", "11", "12"} {
		d = asks(t, d, tenant, "open", "join "+handle+" 1")
		l := &d.Lanes[tenant]
		l.Conf, l.Members, l.Control = d.Conf, d.Members, nil
		l.Table = []api.Member{{Group: 1, Session: 1}, {Group: 1, Daemon: 1, Session: 7}}
	}
	return d
}

// mail is what daemon 1 of these three sends.
func mail(d api.Daemon) api.Packet {
	return api.Packet{
		From: 1, Inc: 2, Conf: d.Conf, Members: d.Members, Count: api.Counts{3, 5, 4},
		Promise: d.Conf, Wanted: d.Members, Epoch: 5, Round: 5, RelayOf: 2, RelayRound: 4,
	}
}

// says is a message of session 7 to group 1.
func says(service int, text string) api.Entry { return message(service, 7, 1, 1, text) }

// P24.3: the frames that a packet brings are passed on one by one, each with the
// counts up to it, and to each tenant; so what each of them brings is noted ahead of
// what the next one does, whoever's it is.
func TestReceiveFrames(t *testing.T) {
	d, heard := three(t), mail(three(t))
	heard.Older = page([3][]api.Entry{{says(api.SvcFifo, "a0")}, nil, {says(api.SvcFifo, "a2")}})
	heard.Newest = page([3][]api.Entry{{says(api.SvcCausal, "b0")}, {says(api.SvcFifo, "b1")}})
	heard.Relay = page([3][]api.Entry{{says(api.SvcSafe, "c0")}, {says(api.SvcAgreed, "c1")}})
	d.Lanes[0].Queue = []api.Wait{{Place: api.Place{Round: 3, From: 2}, Entry: says(api.SvcSafe, "s")}}
	then, notes := agreeReceive(t, d, heard)
	noted(t, "the packet", notes,
		"0.1 message 1.7 a0", "2.1 message 1.7 a2", "1.1 message 1.7 b1",
		"0.1 message 2.7 s", "0.1 message 1.7 b0", "1.1 message 2.7 c1")
	if then.Count != (api.Counts{9, 5, 4}) || len(then.Kept) != 3 || len(then.Lanes[0].Queue) != 1 || then.Heard[1] != 30 {
		t.Errorf("it is %s", short(then))
	}
	// Once more it brings nothing.
	again, notes := agreeReceive(t, then, heard)
	noted(t, "the packet, once more,", notes)
	for tenant := range 3 {
		if !sameLane(again.Lanes[tenant], then.Lanes[tenant]) {
			t.Errorf("once more: lane %d: %s", tenant, unlike(again.Lanes[tenant], then.Lanes[tenant]))
		}
	}
}

// P24.3: a packet may bring none, one, or two frames.
func TestReceiveFewer(t *testing.T) {
	d := three(t)
	for _, c := range []struct {
		what  string
		turn  func(*api.Packet)
		count api.Counts
		texts []string
	}{
		{"all", func(*api.Packet) {}, api.Counts{9, 5, 4}, []string{"older", "newest", "relay"}},
		{"no relay", func(p *api.Packet) { p.RelayRound = 0 }, api.Counts{9, 5, 3}, []string{"older", "newest"}},
		{"a later relay", func(p *api.Packet) { p.RelayRound = 5 }, api.Counts{9, 5, 3}, []string{"older", "newest"}},
		{"a relay of nobody", func(p *api.Packet) { p.RelayOf = 8 }, api.Counts{9, 5, 3}, []string{"older", "newest"}},
		{"the greatest relay", func(p *api.Packet) { p.RelayOf, p.RelayRound = most32, most32 }, api.Counts{9, 5, 3}, []string{"older", "newest"}},
		{"an earlier round", func(p *api.Packet) { p.Round = 4 }, api.Counts{9, 4, 4}, []string{"newest", "relay"}},
		{"a round that it had", func(p *api.Packet) { p.Round = 3 }, api.Counts{9, 3, 4}, []string{"relay"}},
		{"a later round", func(p *api.Packet) { p.Round = 6 }, api.Counts{9, 3, 4}, []string{"relay"}},
		{"no round", func(p *api.Packet) { p.Round, p.RelayRound = 0, 0 }, api.Counts{9, 3, 3}, nil},
		{"another configuration", func(p *api.Packet) { p.Conf.Epoch-- }, api.Counts{9, 3, 3}, nil},
		{"its own", func(p *api.Packet) { p.From, p.Inc = 0, 1 }, api.Counts{9, 3, 3}, nil},
		{"nobody's", func(p *api.Packet) { p.From = 8 }, api.Counts{9, 3, 3}, nil},
		{"nobody's at all", func(p *api.Packet) { p.From = most32 }, api.Counts{9, 3, 3}, nil},
		{"an older incarnation's", func(p *api.Packet) { p.Inc = 1 }, api.Counts{9, 3, 3}, nil},
		{"no incarnation's", func(p *api.Packet) { p.Inc = 0 }, api.Counts{9, 3, 3}, nil},
		{"another daemon's", func(p *api.Packet) { p.From, p.Inc = 5, 1 }, api.Counts{9, 3, 4}, []string{"relay"}},
	} {
		p := mail(d)
		p.Older = page([3][]api.Entry{nil, {says(api.SvcFifo, "older")}})
		p.Newest = page([3][]api.Entry{nil, {says(api.SvcFifo, "newest")}})
		p.Relay = page([3][]api.Entry{nil, {says(api.SvcFifo, "relay")}})
		c.turn(&p)
		then, notes := agreeReceive(t, d, p)
		var texts []string
		for _, x := range notes {
			texts = append(texts, x.Text)
			if x.Tenant != 1 || x.Session != 1 {
				t.Errorf("%s: %+v", c.what, x)
			}
		}
		if then.Count != c.count || !slices.Equal(texts, c.texts) {
			t.Errorf("%s: %v, %v", c.what, then.Count, texts)
		}
	}
}

// P24.3: no frames of a round that it has not sent itself: so its own comes first.
func TestReceiveAhead(t *testing.T) {
	d := three(t)
	d.Count = api.Counts{3, 3, 3}
	p := mail(d)
	p.Older = page([3][]api.Entry{{says(api.SvcFifo, "hi")}})
	then, notes := agreeReceive(t, d, p)
	noted(t, "ahead of its own frame the packet", notes)
	then, _ = agreeTick(t, then)
	then, notes = agreeReceive(t, then, p)
	noted(t, "behind its own frame the packet", notes, "0.1 message 1.7 hi")
	if then.Count != (api.Counts{4, 4, 4}) {
		t.Errorf("the counts are %v", then.Count)
	}
}

// P24.3: counts at the greatest.
func TestReceiveGreatest(t *testing.T) {
	d := three(t)
	d.Count = api.Counts{most32, most32 - 2, most32 - 1}
	p := mail(d)
	p.Round, p.RelayRound = most32, most32
	p.Older = page([3][]api.Entry{{says(api.SvcFifo, "o")}, {says(api.SvcSafe, "os")}})
	p.Newest = page([3][]api.Entry{{says(api.SvcFifo, "n")}, {says(api.SvcAgreed, "na")}})
	p.Relay = page([3][]api.Entry{nil, {says(api.SvcSafe, "never")}})
	then, notes := agreeReceive(t, d, p)
	noted(t, "the last round", notes, "0.1 message 1.7 o", "0.1 message 1.7 n", "1.1 message 1.7 os", "1.1 message 1.7 na")
	if then.Count != (api.Counts{most32, most32, most32}) {
		t.Errorf("the counts are %v", then.Count)
	}
	for _, round := range []uint32{0, 1, most32} {
		p.Round, p.RelayRound = round, round
		if again, notes := agreeReceive(t, then, p); len(notes) > 0 || again.Count != then.Count {
			t.Errorf("behind it: %v, %v", notes, again.Count)
		}
	}
}

// P24.3: frames ahead of a configuration: one that gathers takes what the others
// had, and installs; what still waits is seen as that is done.
func TestReceiveInstalls(t *testing.T) {
	d := three(t)
	d.Promise, d.Wanted, d.Epoch = api.Id{Epoch: 6, Coord: 1, Inc: 2}, api.Members{1, 2}, 6
	d.Count = api.Counts{4, 3, 3}
	d.Cut = d.Count
	p := mail(d)
	p.Promise, p.Wanted, p.Ready, p.Epoch = d.Promise, d.Wanted, true, 6
	p.Count = api.Counts{4, 5, 4}
	p.Older = page([3][]api.Entry{{says(api.SvcFifo, "o"), says(api.SvcSafe, "os")}})
	p.Newest = page([3][]api.Entry{nil, nil, {says(api.SvcFifo, "n"), leave(7, 1)}})
	p.Relay = page([3][]api.Entry{{says(api.SvcFifo, "r")}, {join(2, 1), says(api.SvcAgreed, "ra")}})
	then, notes := agreeReceive(t, d, p)
	noted(t, "the packet", notes,
		"0.1 message 1.7 o", "2.1 message 1.7 n", "0.1 message 2.7 r", "1.1 view 1: 0.1 1.7 2.2", "1.1 message 2.7 ra",
		"0.1 message 1.7 os", "0.1 conf 6", "1.1 conf 6", "2.1 view 1: 0.1", "2.1 conf 6")
	for i, x := range notes {
		if into := i == 5 || i == 8; (x.Into == d.Promise) != into || !into && x.Into != (api.Id{}) || x.Kind == api.SeenConf == (x.Conf == d.Conf) {
			t.Errorf("noted: %+v", x)
		}
	}
	if then.Conf != d.Promise || then.Members != d.Wanted || then.Count != (api.Counts{}) || len(then.Kept) > 0 {
		t.Errorf("the core is %s", short(then.Core))
	}
	for tenant, l := range then.Lanes {
		if l.Conf != d.Promise || l.Members != d.Wanted || len(l.Queue)+len(l.Table) > 0 || l.Views != 0 || !slices.Equal(l.Control, []api.Entry{join(1, 1)}) {
			t.Errorf("lane %d is %s", tenant, short(l))
		}
	}
}

// P24.3: packets that are none, and what is not heeded, change nothing.
func TestReceiveNothing(t *testing.T) {
	d := three(t)
	zero, _ := packet.Decode("these are no packet's bytes")
	spoilt, _ := packet.Decode(strings.Repeat("x", api.PacketLong))
	own := core.Packet(d.Core)
	for _, p := range []api.Packet{zero, spoilt, own, {From: 1}, {From: 1, Inc: 1}, {From: 8, Inc: 1}, {From: most32, Inc: most32}} {
		if then, notes := agreeReceive(t, d, p); len(notes) > 0 || !sameDaemon(then, d) {
			t.Errorf("%s: %v, %s", short(p), notes, unlikeDaemon(then, d))
		}
	}
	// Nobody is heard ahead of the first tick.
	d.Now = 0
	if then, notes := agreeReceive(t, d, mail(d)); len(notes) > 0 || !sameDaemon(then, d) {
		t.Errorf("at 0: %v, %s", notes, unlikeDaemon(then, d))
	}
	// A packet by which it learns something, but of no frame.
	d = three(t)
	p := mail(d)
	p.Round, p.RelayRound, p.Epoch = 0, 0, 77
	then, notes := agreeReceive(t, d, p)
	if d.Epoch, d.Peers[1].Cut = 77, p.Count; len(notes) > 0 || !sameDaemon(then, d) {
		t.Errorf("an epoch: %v, %s", notes, unlikeDaemon(then, d))
	}
}

// P24.3: what a frame holds may be anything: a packet need not be one that may be.
func TestReceiveOddEntries(t *testing.T) {
	r := rand.New(rand.NewSource(2430))
	d := three(t)
	for _, n := range oddInts {
		for range 20 {
			p := mail(d)
			for _, f := range []*api.Frame{&p.Older, &p.Newest, &p.Relay} {
				*f = drawnFrame(r)
				e := says(api.SvcFifo, fmt.Sprint(n))
				switch r.Intn(4) {
				case 0:
					e.Kind = n
				case 1:
					e.Service = n
				case 2:
					e.Group = n
				case 3:
					e.Session, e.Number = uint64(n), uint64(n)
				}
				f[r.Intn(3)][r.Intn(2)] = e
			}
			agreeReceive(t, d, p)
		}
	}
}

// P24.1, P24.2, P24.3: two daemons from Start on, what each of them notes.
func TestTwo(t *testing.T) {
	a, b := started(t, 0, []uint64{10}, []uint64{11}), started(t, 1, []uint64{20}, []uint64{21})
	a = asks(t, a, 0, "open", "join 10 1")
	b = asks(t, b, 0, "open", "join 20 1")
	b = asks(t, b, 1, "open", "join 21 1")
	var saw [2][]string
	// In each round both tick, and then hear each other.
	round := func(hears bool) {
		var more [2][]api.Note
		a, more[0] = agreeTick(t, a)
		b, more[1] = agreeTick(t, b)
		saw[0], saw[1] = append(saw[0], brief(more[0])...), append(saw[1], brief(more[1])...)
		if !hears {
			return
		}
		p, q := core.Packet(a.Core), core.Packet(b.Core)
		a, more[0] = agreeReceive(t, a, q)
		b, more[1] = agreeReceive(t, b, p)
		saw[0], saw[1] = append(saw[0], brief(more[0])...), append(saw[1], brief(more[1])...)
	}
	seen := func(what string, of, to []string) {
		t.Helper()
		if !slices.Equal(saw[0], of) || !slices.Equal(saw[1], to) {
			t.Errorf("%s: daemon 0 saw %q, not %q; daemon 1 %q, not %q", what, saw[0], of, saw[1], to)
		}
		saw = [2][]string{}
	}
	round(true)
	seen("alone", []string{"0.1 view 1: 0.1"}, []string{"0.1 view 1: 1.1", "1.1 view 1: 1.1"})
	for range 3 {
		round(true)
	}
	// Daemon 0 has installed it ahead of daemon 1, and is a frame ahead.
	seen("together", []string{"0.1 conf 1", "0.1 view 1: 0.1"}, []string{"0.1 conf 1", "1.1 conf 1"})
	round(true)
	round(true)
	seen("their groups", []string{"0.1 view 1: 0.1 1.1"}, []string{"0.1 view 1: 0.1 1.1", "1.1 view 1: 1.1"})
	a = asks(t, a, 0, "send 10 1 agreed =hi", "send 10 1 safe =ho")
	round(true)
	round(true)
	round(true)
	want := []string{"0.1 message 0.1 hi", "0.1 message 0.1 ho"}
	seen("their messages", want, want)
	for range 4 {
		round(false)
	}
	seen("deaf", []string{"0.1 conf 2"}, []string{"0.1 conf 2", "1.1 conf 2"})
	round(false)
	seen("alone again", []string{"0.1 view 1: 0.1"}, []string{"0.1 view 1: 1.1", "1.1 view 1: 1.1"})
}
