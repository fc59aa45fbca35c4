package cluster_test

import (
	"fmt"
	"maps"

	"congress/api"
)

// life is a daemon from its coming up to its going down.
type life struct {
	who int
	inc uint32
}

// stay is a life's time in a configuration.
type stay struct {
	life
	conf api.Id
}

// spot is where a frame stands.
type spot struct {
	conf  api.Id
	from  int
	round uint32
}

// chronicle is an account of deeds and of what was told behind them, made
// without the program's packages but api, whose types it takes.
type chronicle struct {
	incs    []uint32 // of each daemon the incarnation
	up      []bool
	where   map[life]api.Id             // the configuration that each is in
	members map[api.Id]api.Members      // of each configuration, as the first one installed it
	sent    map[spot]api.Frame          // what its own daemon told
	counts  map[stay]map[int]uint32     // how many frames of each daemon were told
	heard   map[stay]map[spot]api.Frame // what was told
	next    map[stay]api.Id             // where each went on to
	views   int
	shared  int // frames of another daemon that were told
}

func newChronicle(daemons int) *chronicle {
	k := &chronicle{
		incs: make([]uint32, daemons), up: make([]bool, daemons),
		where: map[life]api.Id{}, members: map[api.Id]api.Members{}, sent: map[spot]api.Frame{},
		counts: map[stay]map[int]uint32{}, heard: map[stay]map[spot]api.Frame{}, next: map[stay]api.Id{},
	}
	for who := range daemons {
		k.comesUp(who)
	}
	return k
}

// comesUp notes that a daemon is up, alone in a configuration of its own.
func (k *chronicle) comesUp(who int) {
	k.incs[who]++
	k.up[who] = true
	l := life{who, k.incs[who]}
	id := api.Id{Coord: uint32(who), Inc: l.inc}
	var alone api.Members
	alone[who] = l.inc
	k.members[id] = alone
	k.enter(l, id)
}

// enter notes that a life is in a configuration.
func (k *chronicle) enter(l life, id api.Id) {
	s := stay{l, id}
	k.where[l] = id
	k.counts[s], k.heard[s] = map[int]uint32{}, map[spot]api.Frame{}
}

// note takes a deed and what was told behind it, and says what is wrong with
// that.
func (k *chronicle) note(d api.Deed, told []api.Told) error {
	teller := -1
	switch {
	case d.Do == api.DeedTick:
		teller = d.Who
	case d.Do == api.DeedArrive || d.Do == api.DeedTwice:
		teller = d.To
	case d.Who < 0 || d.Who >= len(k.up):
	case d.Do == api.DeedCrash:
		k.up[d.Who] = false
	case d.Do == api.DeedUp && !k.up[d.Who]:
		k.comesUp(d.Who)
	}
	for _, x := range told {
		if x.Who != teller || x.Who < 0 || x.Who >= len(k.up) || !k.up[x.Who] || x.Inc != k.incs[x.Who] {
			return fmt.Errorf("%d.%d tells something at %s", x.Who, x.Inc, briefDeed(d))
		}
		if x.In != k.where[life{x.Who, x.Inc}] {
			return fmt.Errorf("%d.%d tells something in %v, and is in %v", x.Who, x.Inc, x.In, k.where[life{x.Who, x.Inc}])
		}
		if err := k.heed(d, x); err != nil {
			return err
		}
	}
	return nil
}

// heed takes one thing that was told.
func (k *chronicle) heed(d api.Deed, x api.Told) error {
	if x.What.View {
		return k.heedView(x)
	}
	return k.heedFrame(d, x)
}

// heedView asks that a configuration has one list of members, with who installs
// it among them.
func (k *chronicle) heedView(x api.Told) error {
	h, l := x.What, life{x.Who, x.Inc}
	if h.Kept != (api.Kept{}) {
		return fmt.Errorf("%v tells a frame with the view %v", l, h.Conf)
	}
	if known, ok := k.members[h.Conf]; ok && known != h.Members {
		return fmt.Errorf("%v installs %v of %v, which was one of %v", l, h.Conf, h.Members, known)
	}
	if h.Members[x.Who] != x.Inc {
		return fmt.Errorf("%v installs %v of %v", l, h.Conf, h.Members)
	}
	if _, was := k.counts[stay{l, h.Conf}]; was {
		return fmt.Errorf("%v installs %v again", l, h.Conf)
	}
	k.members[h.Conf] = h.Members
	k.next[stay{l, x.In}] = h.Conf
	k.enter(l, h.Conf)
	k.views++
	return nil
}

// heedFrame asks that a frame is of a member, of its next round, and is what
// that member gave to its own tick.
func (k *chronicle) heedFrame(d api.Deed, x api.Told) error {
	h, s := x.What, stay{life{x.Who, x.Inc}, x.In}
	at := spot{x.In, h.From, h.Round}
	if h.Conf != (api.Id{}) || h.Members != (api.Members{}) {
		return fmt.Errorf("%v tells a view with the frame %v", s, at)
	}
	if h.From < 0 || h.From > 7 || k.members[x.In][h.From] == 0 || h.Round != k.counts[s][h.From]+1 {
		return fmt.Errorf("%v of %v tells the frame %v behind %v", s, k.members[x.In], at, k.counts[s])
	}
	if own := h.From == x.Who; own != (d.Do == api.DeedTick) {
		return fmt.Errorf("%v tells the frame %v at %s", s, at, briefDeed(d))
	}
	if h.From == x.Who {
		k.sent[at] = cleanPage(d.Frame)
	} else {
		k.shared++
	}
	if was, ok := k.sent[at]; !ok || was != h.Frame {
		return fmt.Errorf("%v tells as the frame %v%s, sent (%v) was%s", s, at, briefFrame(h.Frame), ok, briefFrame(was))
	}
	k.counts[s][h.From]++
	k.heard[s][at] = h.Frame
	return nil
}

// cleanPage is a frame that was given, or the zero one, if it may not be.
func cleanPage(f api.Frame) api.Frame {
	for _, lane := range f {
		for _, e := range lane {
			if e != (api.Entry{}) && !mayStand(e) {
				return api.Frame{}
			}
		}
	}
	return f
}

// mayStand tells whether something may stand in a slot.
func mayStand(e api.Entry) bool {
	if e.Group < 0 || e.Group > 7 || e.Session > 65535 || e.Number > most32 {
		return false
	}
	if e.Kind == 1 {
		return e.Service >= 0 && e.Service < 4 && len(e.Text) < 17
	}
	return (e.Kind == 2 || e.Kind == 3) && e.Service == 2 && len(e.Text) == 0
}

// close asks, when all deeds are done, for what holds of those that went from
// one configuration on to another one.
func (k *chronicle) close() error {
	first := map[[2]api.Id]stay{}
	for s, to := range k.next {
		pair := [2]api.Id{s.conf, to}
		other, ok := first[pair]
		if !ok {
			first[pair] = s
			continue
		}
		if !maps.Equal(k.heard[s], k.heard[other]) {
			return fmt.Errorf("%v and %v went on to %v, with %v and %v", s, other, to, k.counts[s], k.counts[other])
		}
	}
	return k.closeSafe()
}

// closeSafe asks that who went on was told all frames of the rounds that were
// safe to anybody.
func (k *chronicle) closeSafe() error {
	safe := map[api.Id]uint32{}
	for s := range k.counts {
		safe[s.conf] = max(safe[s.conf], k.safeRounds(s))
	}
	for s := range k.next {
		for daemon, inc := range k.members[s.conf] {
			if inc > 0 && k.counts[s][daemon] < safe[s.conf] {
				return fmt.Errorf("round %d of %v was safe to somebody, and %v went on with %v", safe[s.conf], s.conf, s, k.counts[s])
			}
		}
	}
	return nil
}

// safeRounds is up to which round frames are safe in a stay: those behind which
// another round is full.
func (k *chronicle) safeRounds(s stay) uint32 {
	least := uint32(most32)
	for daemon, inc := range k.members[s.conf] {
		if inc > 0 {
			least = min(least, k.counts[s][daemon])
		}
	}
	return max(least, 1) - 1
}
