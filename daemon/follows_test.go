package daemon_test

import (
	"fmt"
	"math/rand"
	"slices"
	"testing"

	"congress/api"
	"congress/core"
	"congress/daemon"
)

// parted tells of each tenant whether it differs.
type parted [3]bool

// partings are each tenant alone, each two, all, and none.
func partings() []parted {
	var l []parted
	for n := range 8 {
		l = append(l, parted{n&1 > 0, n&2 > 0, n&4 > 0})
	}
	return l
}

// blank is a frame without what stands in the lanes of those who differ.
func (p parted) blank(f api.Frame) api.Frame {
	for tenant, differs := range p {
		if differs {
			f[tenant] = [2]api.Entry{}
		}
	}
	return f
}

// inked is a frame with something else in the lanes of those who differ.
func (p parted) inked(r *rand.Rand, f api.Frame) api.Frame {
	other := drawnFrame(r)
	for tenant, differs := range p {
		if differs {
			f[tenant] = other[tenant]
		}
	}
	return f
}

// inkedPacket is a packet with something else in those lanes.
func (p parted) inkedPacket(r *rand.Rand, x api.Packet) api.Packet {
	x.Older, x.Newest, x.Relay = p.inked(r, x.Older), p.inked(r, x.Newest), p.inked(r, x.Relay)
	return x
}

// rest is a daemon without the lanes of those who differ.
func (p parted) rest(d api.Daemon) api.Daemon {
	d.Kept = slices.Clone(d.Kept)
	for i := range d.Kept {
		d.Kept[i].Frame = p.blank(d.Kept[i].Frame)
	}
	for tenant, differs := range p {
		if differs {
			d.Lanes[tenant] = api.Lane{}
		}
	}
	return d
}

// others is what is noted of those who do not differ.
func (p parted) others(notes []api.Note) []api.Note {
	var l []api.Note
	for _, x := range notes {
		if !p[x.Tenant] {
			l = append(l, x)
		}
	}
	return l
}

// same asks that two daemons are the same, and what is noted of them, but for
// those who differ.
func (p parted) same(t *testing.T, what string, a, b api.Daemon, noted, noted2 []api.Note) {
	t.Helper()
	if x, y := p.rest(a), p.rest(b); !sameDaemon(x, y) {
		t.Fatalf("%v differ; %s: %s", p, what, unlikeDaemon(x, y))
	}
	if x, y := p.others(noted), p.others(noted2); !slices.Equal(x, y) {
		t.Fatalf("%v differ; %s: noted are %s, and %s", p, what, short(x), short(y))
	}
}

// P24.4: daemons to which no calls lead: each call, with other lanes of those who
// differ, in the daemon and in frames.
func TestDrawnPairs(t *testing.T) {
	t.Parallel()
	r := rand.New(rand.NewSource(2440))
	came := map[string]int{}
	for range 800 {
		for _, p := range partings() {
			a, other := drawnDaemon(r), drawnDaemon(r)
			for tenant := range 3 {
				// A lane takes from frames what is its Tenant's, wherever it stands.
				a.Lanes[tenant].Tenant, other.Lanes[tenant].Tenant = tenant, tenant
			}
			b := a
			b.Kept = slices.Clone(a.Kept)
			for i := range b.Kept {
				b.Kept[i].Frame = p.inked(r, b.Kept[i].Frame)
			}
			for tenant, differs := range p {
				if differs {
					b.Lanes[tenant] = other.Lanes[tenant]
				}
			}
			x := drawnPacket(r, a.Core)
			a1, noted := daemon.Receive(a, x)
			b1, noted2 := daemon.Receive(b, p.inkedPacket(r, x))
			p.same(t, "Receive", a1, b1, noted, noted2)
			kinds(came, p.others(noted))
			a1, noted = daemon.Tick(a)
			b1, noted2 = daemon.Tick(b)
			p.same(t, "Tick", a1, b1, noted, noted2)
			kinds(came, p.others(noted))
			tenant := r.Intn(3)
			s := drawnRequest(r, a.Lanes[tenant])
			a1, noted = daemon.Call(a, tenant, s)
			b1, noted2 = daemon.Call(b, tenant, s)
			p.same(t, s, a1, b1, noted, noted2)
			if f, g := daemon.Next(a), daemon.Next(b); p.blank(f) != p.blank(g) {
				t.Fatalf("%v differ: Next is %v, and %v", p, f, g)
			}
		}
	}
	enough(t, came, map[string]int{"kind 1 of tenant 0": 300, "kind 2 of tenant 1": 300, "kind 3 of tenant 2": 300})
}

// side is one of two runs: its daemons, and all packets that they have sent.
type side struct {
	r       *rand.Rand // what is of this side alone
	daemons []api.Daemon
	sent    []api.Packet
}

// older is a daemon that was told once, which later calls must leave alone, and a
// copy of it.
type older struct{ d, was api.Daemon }

// runs are two runs of the same calls, ticks and packets, but for the requests of
// those who differ, and what stands in their lanes of frames.
type runs struct {
	t     *testing.T
	r     *rand.Rand // what is of both sides
	p     parted
	sides [2]*side
	draws [4][3][]uint64
	older []older
	came  map[string]int
}

func newRuns(t *testing.T, seed int64, p parted, came map[string]int) *runs {
	w := &runs{t: t, r: rand.New(rand.NewSource(seed)), p: p, came: came}
	for i := range w.sides {
		w.sides[i] = &side{r: rand.New(rand.NewSource(3*seed + int64(i)))}
	}
	wait := 4 + w.r.Intn(5)
	for who := range 2 + w.r.Intn(3) {
		for tenant := range 3 {
			w.draws[who][tenant] = some(w.r, 9, func(r *rand.Rand) uint64 { return uint64(r.Intn(12)) })
		}
		w.start(who, 1, wait, [2][3]int{})
	}
	return w
}

// start lets a daemon begin on both sides.
func (w *runs) start(who int, inc uint32, wait int, used [2][3]int) {
	w.t.Helper()
	for i, s := range w.sides {
		d, ok := daemon.Start(who, inc, wait, w.draws[who], used[i])
		if !ok {
			w.t.Fatalf("Start of %d, %d, %d is false", who, inc, wait)
		}
		if who == len(s.daemons) {
			s.daemons = append(s.daemons, d)
		}
		s.daemons[who] = d
	}
	w.p.same(w.t, "Start", w.sides[0].daemons[who], w.sides[1].daemons[who], nil, nil)
}

// comeUp lets a daemon begin anew, as its next incarnation, with the handles used
// up that were.
func (w *runs) comeUp(who int) {
	w.t.Helper()
	var used [2][3]int
	for i, s := range w.sides {
		for tenant, l := range s.daemons[who].Lanes {
			used[i][tenant] = l.Used
		}
	}
	d := w.sides[0].daemons[who]
	w.start(who, d.Own+1, d.Wait, used)
}

// both does something to a daemon on both sides, and asks that it does what the
// account says, and that both are the same but for those who differ.
func (w *runs) both(what string, who int, do func(s *side, d api.Daemon) (got, want api.Daemon, noted, notes []api.Note)) {
	w.t.Helper()
	var all [2][]api.Note
	for i, s := range w.sides {
		got, want, noted, notes := do(s, s.daemons[who])
		if !sameDaemon(got, want) || !slices.Equal(noted, notes) {
			w.t.Fatalf("%s of %s: %s, noted %s, not %s", what, short(s.daemons[who]), unlikeDaemon(got, want), short(noted), short(notes))
		}
		w.fits(who, got)
		s.daemons[who], all[i] = got, noted
		if s.r.Intn(40) == 0 {
			w.older = append(w.older, older{got, loose(got)})
		}
	}
	a, b := w.sides[0].daemons[who], w.sides[1].daemons[who]
	w.p.same(w.t, what, a, b, all[0], all[1])
	kinds(w.came, w.p.others(all[0]))
	for tenant, differs := range w.p {
		if differs && !sameLane(a.Lanes[tenant], b.Lanes[tenant]) {
			w.came[fmt.Sprintf("another lane of tenant %d", tenant)]++
		}
	}
	if many := a.Members; many[0] > 0 && many[1] > 0 {
		w.came["of several"]++
	}
}

// fits asks that a daemon's lanes are of its core: from Start on they are where it
// is.
func (w *runs) fits(who int, d api.Daemon) {
	w.t.Helper()
	for tenant, l := range d.Lanes {
		if l.Tenant != tenant || l.Daemon != who || d.Self != who || l.Conf != d.Conf || l.Members != d.Members {
			w.t.Fatalf("lane %d of daemon %d is in %v, of %v; the core in %v, of %v", tenant, who, l.Conf, l.Members, d.Conf, d.Members)
		}
	}
}

// likely is a request that may well be answered OK.
func likely(r *rand.Rand, l api.Lane) string {
	if len(l.Rights) == 0 {
		return "open"
	}
	if r.Intn(4) == 0 {
		return drawnRequest(r, l)
	}
	x := pick(r, l.Rights)
	at := slices.IndexFunc(l.Wanted, func(m api.Member) bool { return m.Session == x.Session })
	if at < 0 || r.Intn(8) == 0 {
		return fmt.Sprintf("join %d %d", x.Handle, r.Intn(2))
	}
	return fmt.Sprintf("send %d %d %s =%x", x.Handle, l.Wanted[at].Group, pick(r, []string{"fifo", "causal", "agreed", "safe"}), r.Intn(1<<20))
}

// call lets a tenant ask for something: on both sides for the same, if it is not one
// of those who differ; of these one asks for more at times, or for nothing.
func (w *runs) call(who, tenant int) {
	w.t.Helper()
	request := likely(w.r, w.sides[0].daemons[who].Lanes[tenant])
	w.both(request, who, func(s *side, d api.Daemon) (got, want api.Daemon, noted, notes []api.Note) {
		got, want = d, d
		if !w.p[tenant] {
			got, noted = daemon.Call(d, tenant, request)
			want, notes = called(d, tenant, request)
			return got, want, noted, notes
		}
		for range s.r.Intn(4) {
			own := likely(s.r, got.Lanes[tenant])
			want, notes = called(got, tenant, own)
			got, noted = daemon.Call(got, tenant, own)
		}
		return got, want, noted, notes
	})
}

func (w *runs) tick(who int) {
	w.t.Helper()
	w.both("Tick", who, func(s *side, d api.Daemon) (got, want api.Daemon, noted, notes []api.Note) {
		got, noted = daemon.Tick(d)
		want, notes = ticked(d)
		s.sent = append(s.sent, core.Packet(got.Core))
		return got, want, noted, notes
	})
}

// receive lets a packet come; on each side something else may stand in it where
// those who differ have their lanes.
func (w *runs) receive(who int, packets [2]api.Packet) {
	w.t.Helper()
	forged := w.r.Intn(10) == 0
	w.both("Receive", who, func(s *side, d api.Daemon) (got, want api.Daemon, noted, notes []api.Note) {
		x := packets[slices.Index(w.sides[:], s)]
		if forged {
			x = w.p.inkedPacket(s.r, x)
		}
		got, noted = daemon.Receive(d, x)
		want, notes = received(d, x)
		return got, want, noted, notes
	})
}

// sent is the packets that both sides have sent, counted from the last one.
func (w *runs) sent(back int) [2]api.Packet {
	return [2]api.Packet{w.sides[0].sent[len(w.sides[0].sent)-1-back], w.sides[1].sent[len(w.sides[1].sent)-1-back]}
}

// sweep is a tick of all, whose packets come to all, but for some that are lost.
func (w *runs) sweep() {
	w.t.Helper()
	many := len(w.sides[0].daemons)
	for who := range many {
		w.tick(who)
	}
	for who := range many {
		for back := range many {
			if w.r.Intn(10) > 0 {
				w.receive(who, w.sent(back))
			}
		}
	}
}

// step lets something happen.
func (w *runs) step() {
	w.t.Helper()
	who := w.r.Intn(len(w.sides[0].daemons))
	n := w.r.Intn(100)
	many := len(w.sides[0].sent)
	switch {
	case n == 0 && w.r.Intn(2) == 0:
		w.comeUp(who)
	case n < 50:
		w.call(who, w.r.Intn(3))
	case n < 56 || many == 0:
		w.tick(who)
	case n < 60:
		w.receive(who, w.sent(w.r.Intn(many)))
	case n < 61:
		forged := drawnPacket(w.r, w.sides[0].daemons[who].Core)
		w.receive(who, [2]api.Packet{forged, forged})
	case n < 80:
		w.receive(who, w.sent(w.r.Intn(min(many, 8))))
	default:
		w.sweep()
	}
}

// P24.4: drawn runs from Start on.
func TestDrawnRuns(t *testing.T) {
	t.Parallel()
	came := map[string]int{}
	for seed := range int64(4) {
		for i, p := range partings() {
			w := newRuns(t, 2460+8*seed+int64(i), p, came)
			for range 400 {
				w.step()
			}
			for _, o := range w.older {
				if !sameDaemon(o.d, o.was) {
					t.Fatalf("an older daemon became %s", unlikeDaemon(o.d, o.was))
				}
				came["older"]++
			}
		}
	}
	least := map[string]int{"of several": 5000, "older": 500}
	for tenant := range 3 {
		least[fmt.Sprintf("another lane of tenant %d", tenant)] = 5000
		for kind, n := range []int{500, 60, 200, 500} {
			least[fmt.Sprintf("kind %d of tenant %d", kind, tenant)] = n
		}
	}
	enough(t, came, least)
}
