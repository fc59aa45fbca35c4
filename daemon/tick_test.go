package daemon_test

import (
	"slices"
	"testing"

	"congress/api"
	"congress/core"
)

// The chapter's example, P24.3: a daemon that is alone sends at each tick, and its
// sessions see what it sent.
func TestTickAlone(t *testing.T) {
	d := asks(t, started(t, 0, nil, []uint64{9}), 1, "open", "join 9 2")
	if got := agreeNext(t, d); got != page([3][]api.Entry{nil, {join(1, 2)}}) {
		t.Errorf("Next is %v", got)
	}
	then, notes := agreeTick(t, d)
	view := api.Seen{Session: 1, Kind: api.SeenView, Number: 1, Group: 2, Conf: api.Id{Inc: 1}, View: "0.1 "}
	if !slices.Equal(notes, []api.Note{{Tenant: 1, Seen: view}}) {
		t.Errorf("the first tick notes %+v", notes)
	}
	// What was sent is there no more.
	d.Now, d.Count[0] = 1, 1
	d.Kept = []api.Kept{{Round: 1, Frame: page([3][]api.Entry{nil, {join(1, 2)}})}}
	l := &d.Lanes[1]
	l.Control, l.Views, l.Table = nil, 1, []api.Member{{Group: 2, Session: 1}}
	if !sameDaemon(then, d) || agreeNext(t, then) != (api.Frame{}) {
		t.Errorf("the first tick makes %s", unlikeDaemon(then, d))
	}
	then = asks(t, then, 1, "send 9 2 agreed =hi")
	_, notes = agreeTick(t, then)
	said := api.Seen{Session: 1, Kind: api.SeenMessage, Number: 1, Group: 2, Conf: api.Id{Inc: 1}, From: api.Member{Group: 2, Session: 1}, Text: "hi"}
	if !slices.Equal(notes, []api.Note{{Tenant: 1, Seen: said}}) {
		t.Errorf("the second tick notes %+v", notes)
	}
}

// P24.3: what is safe comes a round behind the others; what one tick brings comes
// tenant by tenant.
func TestTickServices(t *testing.T) {
	d := started(t, 0, []uint64{10}, []uint64{11}, []uint64{12})
	for _, tenant := range []int{2, 0, 1} {
		d = asks(t, d, tenant, "open", "join "+[]string{"10", "11", "12"}[tenant]+" 1")
	}
	d, notes := ticks(t, d, 1)
	noted(t, "the first tick", notes, "0.1 view 1: 0.1", "1.1 view 1: 0.1", "2.1 view 1: 0.1")
	d = asks(t, d, 2, "send 12 1 safe =s", "send 12 1 fifo =f")
	d = asks(t, d, 0, "send 10 1 agreed =a", "send 10 1 causal =c", "send 10 1 fifo =later")
	d, notes = ticks(t, d, 1)
	noted(t, "the second tick", notes, "0.1 message 0.1 a", "0.1 message 0.1 c", "2.1 message 0.1 f")
	d, notes = ticks(t, d, 1)
	noted(t, "the third tick", notes, "0.1 message 0.1 later", "2.1 message 0.1 s")
	_, notes = ticks(t, d, 2)
	noted(t, "the fourth and fifth tick", notes)
}

// busy is a daemon each of whose tenants has two joins to send, and more.
func busy(t *testing.T, self int) api.Daemon {
	t.Helper()
	d := started(t, self, []uint64{10}, []uint64{11}, []uint64{12})
	for tenant, handle := range []string{"10", "11", "12"} {
		d = asks(t, d, tenant, "open", "join "+handle+" 1", "join "+handle+" 2", "send "+handle+" 1 fifo =one", "send "+handle+" 2 safe =two")
	}
	return d
}

// still asks that a tick sends nothing, tells nothing, and leaves the lanes and
// what is sent next as they are.
func still(t *testing.T, what string, d api.Daemon) {
	t.Helper()
	then, notes := agreeTick(t, d)
	if len(notes) > 0 || agreeNext(t, then) != agreeNext(t, d) || then.Count != d.Count {
		t.Errorf("%s: %+v", what, notes)
	}
	for tenant := range 3 {
		if !sameLane(then.Lanes[tenant], d.Lanes[tenant]) {
			t.Errorf("%s: lane %d: %s", what, tenant, unlike(then.Lanes[tenant], d.Lanes[tenant]))
		}
	}
}

// P24.3: a tick that doesn't send takes nothing out of the lanes.
func TestTickStill(t *testing.T) {
	d := busy(t, 0)
	// Nobody is heard ahead of the first tick.
	d.Now = 1
	e, _ := agreeTick(t, started(t, 1))
	heard, _ := agreeReceive(t, d, core.Packet(e.Core))
	still(t, "it gathers from now on", heard)
	gathers, _ := agreeTick(t, heard)
	if !core.Gathers(gathers.Core) {
		t.Fatal("it does not gather")
	}
	still(t, "it gathers", gathers)

	full := d
	full.Count[0] = most32
	still(t, "the greatest count", full)
	full.Self = 8
	still(t, "no daemon", full)

	lacks := d
	lacks.Members[1], lacks.Wanted[1], lacks.Heard[1], lacks.Beat.Inc[1], lacks.Now = 1, 1, 4, 1, 5
	lacks.Peers[1] = api.Peer{Inc: 1, Conf: lacks.Conf, Promise: lacks.Conf}
	lacks.Count[0] = 1
	still(t, "the round is not full", lacks)
	lacks.Count[1] = 1
	if then, _ := agreeTick(t, lacks); then.Count[0] != 2 || len(then.Lanes[2].Control) > 0 {
		t.Errorf("the round is full: %s", short(then))
	}
}

// P24.3: the last round that there is is sent, and nothing behind it.
func TestTickGreatest(t *testing.T) {
	d := busy(t, 0)
	d.Count[0] = most32 - 1
	then, notes := agreeTick(t, d)
	noted(t, "the last round", notes, "0.1 view 1: 0.1", "0.1 view 2: 0.1", "1.1 view 1: 0.1", "1.1 view 2: 0.1", "2.1 view 1: 0.1", "2.1 view 2: 0.1")
	if then.Count[0] != most32 {
		t.Errorf("the count is %d", then.Count[0])
	}
	still(t, "behind the last round", then)
}

// widow is a busy daemon whose peer is heard no more: its next tick installs a
// configuration of itself, and sends.
func widow(t *testing.T) api.Daemon {
	t.Helper()
	d := busy(t, 0)
	d.Members[1], d.Wanted[1], d.Beat.Inc[1] = 4, 4, 4
	d.Conf = api.Id{Epoch: 3, Coord: 1, Inc: 4}
	d.Promise, d.Epoch, d.Now, d.Heard[1] = d.Conf, 3, 20, 17
	d.Count = api.Counts{10, 9}
	for tenant := range d.Lanes {
		d.Lanes[tenant].Conf, d.Lanes[tenant].Members = d.Conf, d.Members
	}
	return d
}

// P24.3: a configuration, and behind it a frame, in one tick: what was to be sent
// ahead of it is in the frame; the counts begin anew, so that what is safe in the
// frame waits; and all is noted by happening, then by tenant.
func TestTickInstalls(t *testing.T) {
	d := widow(t)
	still(t, "a tick is left", func() api.Daemon { d := d; d.Now--; return d }())
	// Tenant 0's lane: one join, and a safe message; tenant 1's waits for a frame
	// of the one that is gone.
	d = asks(t, d, 0, "leave 10 2")
	d.Lanes[0].Waiting = d.Lanes[0].Waiting[:1]
	d.Lanes[0].Waiting[0].Service = api.SvcSafe
	d.Lanes[1].Table = []api.Member{{Group: 1, Session: 1}}
	d.Lanes[1].Queue = []api.Wait{{Place: api.Place{Round: 9}, Entry: message(api.SvcAgreed, 1, 1, 1, "left")}}
	next := agreeNext(t, d)
	if next[0] != [2]api.Entry{join(1, 1), message(api.SvcSafe, 1, 1, 1, "one")} {
		t.Fatalf("Next is %v", next)
	}
	then, notes := agreeTick(t, d)
	noted(t, "the tick", notes,
		"0.1 conf 4", "1.1 message 0.1 left", "1.1 conf 4", "2.1 conf 4",
		"0.1 view 1: 0.1", "1.1 view 1: 0.1", "1.1 view 2: 0.1", "2.1 view 1: 0.1", "2.1 view 2: 0.1")
	conf, alone := api.Id{Epoch: 4, Inc: 1}, api.Members{1}
	if x := notes[1]; x.Into != conf || x.Conf != d.Conf || notes[4].Conf != conf {
		t.Errorf("the tick notes %+v", notes)
	}
	if then.Conf != conf || then.Members != alone || then.Count != (api.Counts{1}) || then.Kept[0].Frame != next {
		t.Errorf("the core is %s", short(then.Core))
	}
	for tenant, l := range then.Lanes {
		joins := []api.Entry{join(1, 1), join(1, 2)}[:len(l.Wanted)]
		if l.Conf != conf || l.Members != alone || !slices.Equal(l.Control, joins) || len(l.Wanted) != min(tenant+1, 2) {
			t.Errorf("lane %d is %s", tenant, short(l))
		}
	}
	// Their joins come once more, which changes nothing; the safe one is due.
	then, notes = agreeTick(t, then)
	noted(t, "the next tick", notes, "0.1 message 0.1 one")
	_, notes = agreeTick(t, then)
	noted(t, "the one behind it", notes, "1.1 message 0.1 one", "2.1 message 0.1 one")
}

// P24.3: a configuration without a frame behind it: one of two, whose other one has
// installed it.
func TestTickInstallsOnly(t *testing.T) {
	d := widow(t)
	d.Count = api.Counts{9, 9}
	d.Heard[1], d.Promise, d.Wanted, d.Ready = 19, api.Id{Epoch: 4, Inc: 1}, d.Members, true
	d.Epoch = 4
	d.Peers[1] = api.Peer{Inc: 4, Conf: d.Promise, Promise: d.Promise}
	then, notes := agreeTick(t, d)
	noted(t, "the tick", notes,
		"0.1 conf 4", "1.1 conf 4", "2.1 conf 4",
		"0.1 view 1: 0.1", "0.1 view 2: 0.1", "1.1 view 1: 0.1", "1.1 view 2: 0.1", "2.1 view 1: 0.1", "2.1 view 2: 0.1")
	if then.Count != (api.Counts{1}) {
		t.Errorf("the counts are %v", then.Count)
	}
	// The greatest count is of no moment in the next configuration.
	d.Count[0] = most32
	if then, _ := agreeTick(t, d); then.Count != (api.Counts{1}) {
		t.Errorf("the counts are %v", then.Count)
	}
	// Where it is not itself of the next configuration nothing is sent in it.
	out := busy(t, 1)
	out.Now, out.Heard[0], out.Beat.Inc[0] = 20, 19, 4
	out.Members[0], out.Count, out.Epoch = 4, api.Counts{9, 9}, 4
	out.Promise, out.Wanted, out.Ready = api.Id{Epoch: 4, Inc: 4}, api.Members{4}, true
	out.Peers[0] = api.Peer{Inc: 4, Conf: out.Promise, Promise: out.Promise}
	then, notes = agreeTick(t, out)
	noted(t, "the tick of one that is out", notes, "0.1 conf 4", "1.1 conf 4", "2.1 conf 4")
	if then.Count != (api.Counts{}) || then.Members != (api.Members{4}) || agreeNext(t, then) != agreeNext(t, out) {
		t.Errorf("it is %s", short(then))
	}
}
