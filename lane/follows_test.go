package lane_test

import (
	"cmp"
	"fmt"
	"maps"
	"math/rand"
	"slices"
	"strings"
	"testing"

	"congress/api"
	"congress/lane"
)

// grant is what a handle was told to give.
type grant struct {
	session uint64
	give    int
}

// saying is a message, by who said it: a daemon that comes up again counts its
// sessions anew.
type saying struct {
	daemon, life    int
	session, number uint64
}

// host is a lane at a daemon, an account of it, and a chronicle of what was told
// there.
type host struct {
	daemon, life int
	l            api.Lane
	b            box
	counts       [8]uint32

	grants map[uint64]grant
	open   map[uint64]uint64 // how many messages each open session was told to have sent
	in     map[guest]int     // who is in which group, as it was delivered; 0: not
	moves  uint64
	calls  []note
	older  []older
}

// older is a lane that was told once, which later calls must leave alone.
type older struct {
	l api.Lane
	b box
}

// stage is the hosts of one tenant, and what is on its way between them.
type stage struct {
	t       *testing.T
	r       *rand.Rand
	tenant  int
	conf    name
	members [8]uint32
	hosts   map[int]*host
	lives   int
	wire    [8][]post
	said    map[saying]string
	shown   map[string]string // what a view was, by configuration and number
	came    map[string]int

	mintsMuch bool
}

func newStage(t *testing.T, seed int64) *stage {
	r := rand.New(rand.NewSource(seed))
	s := &stage{t: t, r: r, tenant: r.Intn(3), mintsMuch: r.Intn(4) == 0, hosts: map[int]*host{}, said: map[saying]string{}, shown: map[string]string{}, came: map[string]int{}}
	s.install()
	return s
}

// start lets a daemon's lane begin; few draws are 0, or come twice.
func (s *stage) start(daemon int) {
	var draws []uint64
	for range s.r.Intn(12) {
		draws = append(draws, uint64(s.r.Intn(20)))
	}
	s.lives++
	s.hosts[daemon] = &host{
		daemon: daemon, life: s.lives,
		l:      lane.Start(s.tenant, daemon, draws, s.conf.id(), s.members),
		b:      box{tenant: s.tenant, daemon: daemon, draws: draws, conf: s.conf, members: s.members},
		grants: map[uint64]grant{}, open: map[uint64]uint64{}, in: map[guest]int{},
	}
}

// became accounts for a host's lane behind a call.
func (s *stage) became(h *host, what string, l api.Lane, want box) {
	s.t.Helper()
	if got := boxOf(l); !got.same(want) {
		s.t.Fatalf("%s of %s makes %s", what, h.b, got.unlike(want))
	}
	if s.r.Intn(20) == 0 {
		h.older = append(h.older, older{l, want})
	}
	h.l, h.b = l, want
	if len(l.Roster.List) > 4 || len(l.Rights) > 16 || len(l.Waiting) > 8 {
		s.t.Fatalf("%s makes more than may be: %s", what, want)
	}
	s.came["waiting "+fmt.Sprint(len(l.Waiting))]++
	s.came["sessions "+fmt.Sprint(len(l.Roster.List))]++
	s.came["rights "+fmt.Sprint(len(l.Rights))]++
}

// request is what a client of the host asks for: with a handle that was told, or
// was once, or with none.
func (s *stage) request(h *host) string {
	s.came["request"]++
	if s.r.Intn(6) == 0 {
		return drawnRequest(s.r, h.b)
	}
	handles := slices.Sorted(maps.Keys(h.grants))
	if len(handles) == 0 {
		return "open"
	}
	handle := pick(s.r, handles)
	// Some stages' clients mint more than they do else.
	switch n := s.r.Intn(20); {
	case n == 0:
		return "open"
	case n == 1 && s.r.Intn(3) == 0:
		return fmt.Sprintf("close %d", handle)
	case n < 4 || n < 15 && s.mintsMuch:
		return fmt.Sprintf("mint %d %d", handle, s.r.Intn(7)+1)
	case n == 4:
		return fmt.Sprintf("revoke %d %d", handle, pick(s.r, handles))
	case n < 9:
		return fmt.Sprintf("join %d %d", handle, s.r.Intn(2))
	case n < 10:
		return fmt.Sprintf("leave %d %d", handle, s.r.Intn(2))
	}
	return fmt.Sprintf("send %d %d %s =%x", handle, s.r.Intn(2), pick(s.r, serviceNames), s.r.Intn(1<<20))
}

// call lets a client of the host ask for something.
func (s *stage) call(h *host) {
	s.t.Helper()
	request, tick := s.request(h), uint32(s.r.Intn(100))
	before := boxOf(h.l)
	l, x := lane.Call(h.l, tick, request)
	want, seen := h.b.asked(tick, request)
	if sightOf(x) != seen {
		s.t.Fatalf("%q of %s: %+v, not %+v", request, h.b, x, seen)
	}
	s.became(h, request, l, want)
	// Each call is one record.
	if n := len(h.calls); n > 0 {
		tick = max(tick, h.calls[n-1].tick)
	}
	h.calls = append(h.calls, note{uint64(len(h.calls) + 1), tick, request, seen.code})
	if !slices.Equal(h.b.notes, h.calls) {
		s.t.Fatalf("%q: the notes are %v", request, h.b.notes)
	}
	word, _, _ := strings.Cut(request, " ")
	s.came[fmt.Sprintf("%s %d", word, seen.code)]++
	if seen.code == fine {
		s.obeyed(h, request, seen)
		return
	}
	// Nothing else is changed by a call that is not answered OK.
	after := boxOf(h.l)
	if after.notes = before.notes; !after.same(before) {
		s.t.Fatalf("%q, answered by %d, makes %s", request, seen.code, after.unlike(before))
	}
}

// obeyed asks that what a request was told was its to be told, and writes it into
// the chronicle.
func (s *stage) obeyed(h *host, request string, seen sight) {
	s.t.Helper()
	a, _ := parsed(request)
	g := h.grants[a.handle]
	need := []int{closes: owns, mints: owns, revokes: owns, asksIn: goes, asksOut: goes, says: talk}[max(a.do, closes)]
	if a.do != opens && (g.give&need == 0 || g.session != seen.session) {
		s.t.Fatalf("%q is done for %d, of %+v", request, seen.session, g)
	}
	switch a.do {
	case opens:
		h.open[seen.session] = 0
		h.grants[seen.handle] = grant{seen.session, all}
	case closes:
		delete(h.open, seen.session)
		maps.DeleteFunc(h.grants, func(_ uint64, g grant) bool { return g.session == seen.session })
	case mints:
		h.grants[seen.handle] = grant{seen.session, a.give}
	case revokes:
		if h.grants[a.other].session != seen.session {
			s.t.Fatalf("%q: it is of %+v", request, h.grants[a.other])
		}
		delete(h.grants, a.other)
	case says:
		if h.open[seen.session]++; h.open[seen.session] != seen.number {
			s.t.Fatalf("%q: its number is %d", request, seen.number)
		}
		s.said[saying{h.daemon, h.life, seen.session, seen.number}] = a.text
	}
}

// emit lets a host send its next frame, if it is its turn.
func (s *stage) emit(h *host) {
	s.t.Helper()
	for d, inc := range s.members {
		if inc > 0 && h.counts[d] < h.counts[h.daemon] {
			return
		}
	}
	l, sent := lane.Emit(h.l)
	want, slips := h.b.emitted()
	if !slices.Equal(each(sent, slipOf), slips) {
		s.t.Fatalf("Emit of %s: %v, not %v", h.b, sent, slips)
	}
	s.became(h, "Emit", l, want)
	p := post{from: h.daemon, round: h.counts[h.daemon] + 1}
	// Other tenants' lanes hold what they will.
	for tenant := range p.slots {
		p.slots[tenant] = [2]slip{drawnSlip(s.r), drawnSlip(s.r)}
	}
	p.slots[s.tenant] = [2]slip{}
	copy(p.slots[s.tenant][:], slips)
	s.wire[h.daemon] = append(s.wire[h.daemon], p)
	s.hear(h, h.daemon)
}

// hear lets a host take the next frame of a daemon, if there is one.
func (s *stage) hear(h *host, from int) bool {
	s.t.Helper()
	n := h.counts[from]
	if int(n) == len(s.wire[from]) {
		return false
	}
	p := s.wire[from][n]
	h.counts[from]++
	l, x := lane.Take(h.l, p.kept(), h.counts)
	want, seen := h.b.took(p, h.counts)
	if !slices.Equal(each(x, sightOf), seen) {
		s.t.Fatalf("Take of %+v of %s: %+v, not %+v", p, h.b, x, seen)
	}
	come, _ := h.b.parted(h.b.laid(p), h.counts)
	if rest := s.saw(h, come, seen, name{}); len(rest) > 0 {
		s.t.Fatalf("seen with nothing that came: %+v", rest)
	}
	s.became(h, "Take", l, want)
	return true
}

// saw goes through what came and asks that each of it was seen by those who are in
// the group then, and nobody else; what was seen beside it is left.
func (s *stage) saw(h *host, come []item, seen []sight, into name) []sight {
	s.t.Helper()
	for _, x := range come {
		who := guest{x.group, x.from, x.session}
		want := sight{group: x.group, conf: s.conf, into: into}
		if x.kind == sends {
			want.kind, want.number, want.from = messages, x.number, who
			want.text = s.said[saying{x.from, s.hosts[x.from].life, x.session, x.number}]
		} else {
			is := leaves - x.kind // 1 of a join, 0 of a leave
			if h.in[who] == is {
				continue
			}
			h.in[who] = is
			h.moves++
			want.kind, want.number, want.view = views, h.moves, h.view(x.group)
			s.showed(want)
		}
		for _, session := range slices.Sorted(maps.Keys(h.open)) {
			if h.in[guest{x.group, h.daemon, session}] == 0 {
				continue
			}
			if want.session = session; len(seen) == 0 || seen[0] != want {
				s.t.Fatalf("of %+v session %d is to see %+v; seen: %+v", x, session, want, seen)
			}
			if want.kind == views && !strings.Contains(" "+want.view, fmt.Sprintf(" %d.%d ", h.daemon, session)) {
				s.t.Fatalf("session %d of %d sees the view %q", session, h.daemon, want.view)
			}
			seen = seen[1:]
			s.came[fmt.Sprintf("kind %d, into %v", want.kind, into != name{})]++
		}
	}
	return seen
}

// view is who is in a group, by the chronicle.
func (h *host) view(group int) string {
	var l []guest
	for g, is := range h.in {
		if is == 1 && g.group == group {
			l = append(l, g)
		}
	}
	slices.SortFunc(l, func(a, b guest) int {
		return cmp.Or(a.daemon-b.daemon, cmp.Compare(a.session, b.session))
	})
	return crowd(l, group)
}

// showed asks that a view is the same one everywhere.
func (s *stage) showed(v sight) {
	s.t.Helper()
	key, what := fmt.Sprint(v.conf, v.number), fmt.Sprint(v.group, ": ", v.view)
	if was, there := s.shown[key]; there && was != what {
		s.t.Fatalf("view %s is %s here, %s there", key, what, was)
	}
	s.shown[key] = what
}

// all is the hosts, by their daemons.
func (s *stage) all() []*host {
	var l []*host
	for _, d := range slices.Sorted(maps.Keys(s.hosts)) {
		l = append(l, s.hosts[d])
	}
	return l
}

// install lets all hosts hear all that was sent, each in an order of its own, and
// lets them go on together with those that come in; those that are not in it are
// gone.
func (s *stage) install() {
	s.t.Helper()
	next := name{s.conf.epoch + 1, uint32(s.r.Intn(8)), s.r.Uint32()}
	var members [8]uint32
	for d := range 4 {
		if s.r.Intn(5) > 0 {
			members[d] = 1 + uint32(s.r.Intn(3))
		}
	}
	if s.r.Intn(4) == 0 {
		// One that is never heard, so that much waits till the end.
		members[5] = 1
	}
	for _, h := range s.all() {
		for left := 8; left > 0; {
			d := s.r.Intn(8)
			if !s.hear(h, d) {
				left--
			}
		}
		for d := range 8 {
			for s.hear(h, d) {
			}
		}
	}
	for _, h := range s.all() {
		l, x := lane.Install(h.l, next.id(), members)
		want, seen := h.b.installed(next, members)
		if !slices.Equal(each(x, sightOf), seen) {
			s.t.Fatalf("Install of %s: %+v, not %+v", h.b, x, seen)
		}
		rest := s.saw(h, h.b.queue, seen, next)
		for _, session := range slices.Sorted(maps.Keys(h.open)) {
			if len(rest) == 0 || rest[0] != (sight{session: session, kind: confs, conf: next}) {
				s.t.Fatalf("session %d is to see %v; seen: %+v", session, next, rest)
			}
			rest = rest[1:]
			s.came["conf"]++
		}
		if len(rest) > 0 {
			s.t.Fatalf("seen with nothing that came: %+v", rest)
		}
		s.became(h, "Install", l, want)
		h.in, h.moves, h.counts = map[guest]int{}, 0, [8]uint32{}
	}
	s.conf, s.members, s.wire = next, members, [8][]post{}
	for d := range 4 {
		if members[d] == 0 {
			s.gone(d)
		} else if s.hosts[d] == nil {
			s.start(d)
		}
	}
}

// gone asks that a host's older lanes are what they were, and takes it away.
func (s *stage) gone(d int) {
	s.t.Helper()
	h := s.hosts[d]
	if h == nil {
		return
	}
	for _, o := range h.older {
		if got := boxOf(o.l); !got.same(o.b) {
			s.t.Fatalf("an older lane became %s", got.unlike(o.b))
		}
		s.came["older"]++
	}
	delete(s.hosts, d)
}

// step lets something happen.
func (s *stage) step() {
	s.t.Helper()
	hosts := s.all()
	n := s.r.Intn(250)
	if len(hosts) == 0 || n == 0 {
		s.install()
		return
	}
	h := pick(s.r, hosts)
	switch {
	case n < 60:
		s.call(h)
	case n < 120:
		s.emit(h)
	default:
		s.hear(h, s.r.Intn(4))
	}
}

// P23.6: drawn runs of calls, frames and configurations, at up to four daemons.
func TestDrawnRuns(t *testing.T) {
	came := map[string]int{}
	for seed := range int64(60) {
		s := newStage(t, 2360+seed)
		for range 1200 {
			s.step()
		}
		s.install()
		for d := range 4 {
			s.gone(d)
		}
		for what, n := range s.came {
			came[what] += n
		}
	}
	for what, least := range map[string]int{
		"open 0": 300, "open 1": 20, "open 161": 20, "close 0": 100, "close 160": 20, "mint 0": 300, "mint 1": 20, "mint 160": 50, "mint 161": 5,
		"revoke 0": 50, "revoke 160": 50, "join 0": 300, "join 160": 50, "join 163": 50, "leave 0": 50, "leave 160": 20, "leave 163": 50,
		"send 0": 500, "send 160": 100, "send 164": 500, "send 161": 5, "nothing 210": 2,
		"kind 2, into false": 500, "kind 3, into false": 500, "kind 2, into true": 20, "kind 3, into true": 50, "conf": 100, "older": 500,
		"waiting 8": 20, "sessions 4": 100, "rights 16": 20,
	} {
		if came[what] < least {
			t.Errorf("%s came %d times", what, came[what])
		}
	}
	for _, what := range []string{"close 162", "send 162"} {
		if came[what] > 0 {
			t.Errorf("%s came %d times: who has a capability is open", what, came[what])
		}
	}
}
