package core_test

import (
	"math/rand"
	"slices"
	"testing"

	"congress/api"
	"congress/core"
)

// step is what is to be seen of one step, but for what stands in frames.
type step struct {
	who    int
	ok     bool
	core   api.Core
	told   []api.Happen
	packet api.Packet
}

// blankKept is a list without what stands in its frames.
func blankKept(l []api.Kept) []api.Kept {
	l = slices.Clone(l)
	for i := range l {
		l[i].Frame = api.Frame{}
	}
	return l
}

// blankTold is what was told, without what stands in frames.
func blankTold(l []api.Happen) []api.Happen {
	l = slices.Clone(l)
	for i := range l {
		l[i].Frame = api.Frame{}
	}
	return l
}

// blankPacket is a packet without what stands in its frames.
func blankPacket(p api.Packet) api.Packet {
	p.Newest, p.Older, p.Relay = api.Frame{}, api.Frame{}, api.Frame{}
	return p
}

// blankStep is what is to be seen of a step, but for what stands in frames.
func blankStep(t *testing.T, who int, ok bool, c api.Core, told []api.Happen) step {
	t.Helper()
	p := blankPacket(agreePacket(t, c))
	c.Kept = blankKept(c.Kept)
	return step{who, ok, c, blankTold(told), p}
}

func (s step) same(x step) bool {
	return s.who == x.who && s.ok == x.ok && sameCore(s.core, x.core) && slices.Equal(s.told, x.told) && s.packet == x.packet
}

// life is what a daemon has told since it came up, as far as the rest of it
// hangs on that.
type life struct {
	own     uint32
	conf    api.Id // that it installed last
	members api.Members
	promise api.Id
	epoch   uint32
	rounds  map[int]uint32 // of its configuration: of each daemon the last one told
}

func born(c api.Core) *life {
	var alone api.Members
	alone[c.Self] = c.Own
	id := api.Id{Coord: uint32(c.Self), Inc: c.Own}
	return &life{c.Own, id, alone, id, 0, map[int]uint32{}}
}

// heed asks that what a core tells, and is then, follows on what it told before.
func (l *life) heed(t *testing.T, c api.Core, told []api.Happen) {
	t.Helper()
	for _, h := range told {
		if h.View {
			if !higher(h.Conf, l.conf) || h.Members[c.Self] != l.own || h.Kept != (api.Kept{}) {
				t.Fatalf("daemon %d installs %v, of %v, behind %v", c.Self, h.Conf, h.Members, l.conf)
			}
			l.conf, l.members, l.rounds = h.Conf, h.Members, map[int]uint32{}
			continue
		}
		if h.From < 0 || h.From > 7 || l.members[h.From] == 0 || h.Round != l.rounds[h.From]+1 || h.Conf != (api.Id{}) || h.Members != (api.Members{}) {
			t.Fatalf("daemon %d tells %+v in %v, of %v, behind %v", c.Self, h, l.conf, l.members, l.rounds)
		}
		l.rounds[h.From]++
	}
	if c.Conf != l.conf || c.Members != l.members {
		t.Fatalf("daemon %d is in %v, of %v, told %v, of %v", c.Self, c.Conf, c.Members, l.conf, l.members)
	}
	if higher(l.promise, c.Promise) || c.Epoch < l.epoch || c.Promise.Epoch > c.Epoch || higher(c.Conf, c.Promise) || c.Wanted[c.Self] != l.own {
		t.Fatalf("daemon %d promises %v behind %v, epoch %d behind %d", c.Self, c.Promise, l.promise, c.Epoch, l.epoch)
	}
	for daemon, n := range c.Count {
		if n != l.rounds[daemon] {
			t.Fatalf("daemon %d counts %v, told %v", c.Self, c.Count, l.rounds)
		}
	}
	l.promise, l.epoch = c.Promise, c.Epoch
}

// row is daemons, what they have told, and all packets that they have sent.
type row struct {
	t         *testing.T
	r         *rand.Rand // what is done
	ink       *rand.Rand // what stands in frames
	cores     []api.Core
	lives     []*life
	packets   []api.Packet
	steps     []step
	views     int // of more than one member
	shared    int // frames of another daemon
	forged    int // packets that were forged and heeded
	misled    int // what was told of those
	forgeable bool
}

func newRow(t *testing.T, seed, ink int64) *row {
	w := &row{t: t, r: rand.New(rand.NewSource(seed)), ink: rand.New(rand.NewSource(ink))}
	wait := 1 + w.r.Intn(6)
	for daemon := range 2 + w.r.Intn(4) {
		w.start(daemon, 1+uint32(w.r.Intn(2)), wait)
	}
	w.forgeable = w.r.Intn(2) == 0
	return w
}

func (w *row) start(daemon int, inc uint32, wait int) {
	c := started(w.t, daemon, inc, wait)
	if daemon == len(w.cores) {
		w.cores, w.lives = append(w.cores, c), append(w.lives, nil)
	}
	w.cores[daemon], w.lives[daemon] = c, born(c)
}

// note keeps what a step came to.
func (w *row) note(who int, ok bool, c api.Core, told []api.Happen) {
	w.t.Helper()
	w.lives[who].heed(w.t, c, told)
	w.cores[who] = c
	w.steps = append(w.steps, blankStep(w.t, who, ok, c, told))
	for _, h := range told {
		if many := len(slices.DeleteFunc(slices.Clone(h.Members[:]), func(inc uint32) bool { return inc == 0 })); many > 1 {
			w.views++
		}
		if !h.View && h.From != who {
			w.shared++
		}
	}
}

func (w *row) tick(who int) {
	w.t.Helper()
	next := drawnFrame(w.ink)
	c, sent, told := agreeTick(w.t, w.cores[who], next)
	if sent != (len(told) > 0 && !told[len(told)-1].View) || sent && told[len(told)-1].Frame != next {
		w.t.Fatalf("sent %v, told %+v", sent, told)
	}
	w.note(who, sent, c, told)
	w.packets = append(w.packets, agreePacket(w.t, c))
}

func (w *row) receive(who int, p api.Packet) bool {
	w.t.Helper()
	c, ok, told := agreeReceive(w.t, w.cores[who], p)
	if !ok && (!sameCore(c, w.cores[who]) || len(told) != 0) {
		w.t.Fatalf("a packet that is not heeded: %+v, %+v", c, told)
	}
	w.note(who, ok, c, told)
	return ok
}

// forge is a packet in which some fields are not what was sent.
func (w *row) forge(who int) api.Packet {
	r, c, p := w.r, w.cores[who], w.packets[w.r.Intn(len(w.packets))]
	switch r.Intn(4) {
	case 0:
		p = drawnPacket(r, c)
	case 1, 2:
		// As of one that is where the core itself is, with its next frame.
		from := r.Intn(len(w.cores))
		p = agreePacket(w.t, c)
		p.From, p.Inc, p.Ready = uint32(from), max(c.Beat.Inc[from], c.Wanted[from], 1), r.Intn(2) == 0
		p.Round, p.RelayOf = c.Count[from]+1, uint32(r.Intn(8))
		p.RelayRound = c.Count[p.RelayOf] + 1
		p.Count[from]++
	}
	turns := []func(){
		func() { p.From = uint32(r.Intn(9)) },
		func() { p.Inc += uint32(r.Intn(3)) - 1 },
		func() { p.Conf = c.Conf },
		func() { p.Conf = c.Promise },
		func() { p.Promise = c.Promise },
		func() { p.Promise.Epoch++ },
		func() { p.Promise.Coord++ },
		func() { p.Promise.Inc++ },
		func() { p.Wanted[r.Intn(8)] = uint32(r.Intn(3)) },
		func() { p.Wanted = c.Wanted },
		func() { p.Members[r.Intn(8)] = uint32(r.Intn(3)) },
		func() { p.Count[r.Intn(8)] += uint32(r.Intn(4)) },
		func() { p.Ready = !p.Ready },
		func() { p.Epoch += uint32(r.Intn(3)) },
		func() { p.Round += uint32(r.Intn(3)) - 1 },
		func() { p.RelayOf, p.RelayRound = uint32(r.Intn(9)), uint32(r.Intn(5)) },
		func() { p.RelayOf, p.RelayRound = uint32(who), c.Count[who]+1 },
	}
	for range r.Intn(3) {
		turns[r.Intn(len(turns))]()
	}
	p.Newest, p.Older, p.Relay = drawnFrame(w.ink), drawnFrame(w.ink), drawnFrame(w.ink)
	return p
}

// sweep is a tick of all, whose packets come to all, but for some that are lost.
func (w *row) sweep() {
	w.t.Helper()
	for who := range w.cores {
		w.tick(who)
	}
	sent := w.packets[len(w.packets)-len(w.cores):]
	for who := range w.cores {
		for _, p := range sent {
			if w.r.Intn(8) > 0 {
				w.receive(who, p)
			}
		}
	}
}

// next does one thing: mostly what goes well, of packets the late ones, the
// doubled ones and the forged ones too.
func (w *row) next() {
	w.t.Helper()
	who := w.r.Intn(len(w.cores))
	kind := w.r.Intn(60)
	switch {
	case kind == 0:
		w.start(who, w.cores[who].Own+uint32(w.r.Intn(3)), w.cores[who].Wait)
	case kind < 12 || len(w.packets) == 0:
		w.tick(who)
	case kind < 24 && w.forgeable:
		if w.receive(who, w.forge(who)) {
			w.forged++
			w.misled += len(w.steps[len(w.steps)-1].told)
		}
	case kind < 28:
		w.receive(who, w.packets[w.r.Intn(len(w.packets))])
	case kind < 36:
		w.sweep()
	default:
		recent := min(len(w.packets), 2*len(w.cores))
		w.receive(who, w.packets[len(w.packets)-1-w.r.Intn(recent)])
	}
}

// P13.5: drawn rows from Start on: Ids that are installed rise, with itself among
// the members, promises do not fall, rounds come one by one; and twice over, with
// other contents of the frames, all is the same, but for that.
func TestRows(t *testing.T) {
	views, shared, forged, misled := 0, 0, 0, 0
	for seed := range int64(120) {
		a, b := newRow(t, seed, 7000+seed), newRow(t, seed, 9000+seed)
		for range 100 {
			a.next()
			b.next()
		}
		if !slices.EqualFunc(a.steps, b.steps, step.same) {
			t.Fatalf("row %d: with other contents of the frames it is another one", seed)
		}
		views, shared, forged, misled = views+a.views, shared+a.shared, forged+a.forged, misled+a.misled
	}
	if views < 300 || shared < 1000 || forged < 500 || misled < 50 {
		t.Errorf("%d views of some, %d frames of others, %d forged packets, by which %d things were told: too few to tell", views, shared, forged, misled)
	}
}

// P13.5: where all are up and heard, and nothing is forged, all tell the same
// frames of each member, in one configuration.
func TestRowGoesWell(t *testing.T) {
	for many := 2; many <= 8; many++ {
		w := newRow(t, int64(many), 1)
		w.cores, w.lives = nil, nil
		for daemon := range many {
			w.start(daemon, uint32(daemon)+1, 5)
		}
		for range 30 {
			for who := range many {
				w.tick(who)
			}
			for who := range many {
				for _, p := range w.packets[len(w.packets)-many:] {
					w.receive(who, p)
				}
			}
		}
		for who, c := range w.cores {
			if c.Conf != w.cores[0].Conf || core.Gathers(c) || c.Count != w.cores[0].Count || c.Count[who] < 20 {
				t.Errorf("of %d: daemon %d is in %v, with %v; daemon 0 in %v, with %v", many, who, c.Conf, c.Count, w.cores[0].Conf, w.cores[0].Count)
			}
		}
	}
}

// inked is a core whose frames have other contents.
func inked(r *rand.Rand, c api.Core) api.Core {
	c.Kept = slices.Clone(c.Kept)
	for i := range c.Kept {
		c.Kept[i].Frame = drawnFrame(r)
	}
	return c
}

// P13.5: of drawn cores, from Start on or not: what stands in frames is of no
// moment.
func TestContents(t *testing.T) {
	r := rand.New(rand.NewSource(135))
	for range 15000 {
		c := drawnCore(r)
		p := drawnPacket(r, c)
		if r.Intn(3) == 0 {
			c, p = drawnClose(r)
		}
		d, q := inked(r, c), p
		q.Newest, q.Older, q.Relay = drawnFrame(r), drawnFrame(r), drawnFrame(r)
		c1, ok1, told1 := agreeReceive(t, c, p)
		d1, ok2, told2 := agreeReceive(t, d, q)
		if !blankStep(t, 0, ok1, c1, told1).same(blankStep(t, 0, ok2, d1, told2)) {
			t.Fatalf("Receive of %+v, %+v: with other contents another one", c, p)
		}
		c1, ok1, told1 = agreeTick(t, c, drawnFrame(r))
		d1, ok2, told2 = agreeTick(t, d, drawnFrame(r))
		if !blankStep(t, 0, ok1, c1, told1).same(blankStep(t, 0, ok2, d1, told2)) {
			t.Fatalf("Tick of %+v: with other contents another one", c)
		}
	}
}
