package cluster_test

import (
	"fmt"
	"math"
	"math/rand"
	"slices"
	"sync/atomic"
	"testing"

	"congress/api"
	"congress/cluster"
)

// weather is how things go for a while: of letters in how many of a hundred
// cases they are lost, come twice, are turned; how often a daemon goes down; and
// who hears whom.
type weather struct {
	lost, twice, turned, down int
	deaf                      [8][8]bool // to whom, from whom
	late                      bool       // letters come in any order
}

func drawnWeather(r *rand.Rand) weather {
	var w weather
	if r.Intn(2) == 0 {
		w.lost, w.twice, w.turned = r.Intn(40), r.Intn(20), r.Intn(20)
	}
	if r.Intn(3) == 0 {
		w.down = r.Intn(4)
	}
	switch r.Intn(6) {
	case 0, 1:
		// Those of one side don't hear those of the other one.
		sides := r.Intn(256)
		for to := range w.deaf {
			for from := range w.deaf[to] {
				w.deaf[to][from] = (sides>>to^sides>>from)&1 == 1
			}
		}
	case 2:
		for range 8 {
			w.deaf[r.Intn(8)][r.Intn(8)] = true
		}
	}
	w.late = r.Intn(2) == 0
	return w
}

// play is drawn deeds, from Begin on, and what came of them.
type play struct {
	t       *testing.T
	r       *rand.Rand
	c       api.Cluster
	account *chronicle
	deeds   []api.Deed
	told    [][]api.Told
	caught  int // frames that were told to one that gathers
}

func newPlay(t *testing.T, r *rand.Rand, daemons, wait int) *play {
	t.Helper()
	return &play{t: t, r: r, c: begun(t, daemons, wait), account: newChronicle(daemons)}
}

// do does a deed, and asks that what is told of it fits the account.
func (p *play) do(d api.Deed) {
	p.t.Helper()
	c, told := cluster.Step(p.c, d)
	for _, x := range told {
		if was := p.c.Cores[x.Who]; was.Conf != was.Promise && x.In == was.Conf && !x.What.View {
			p.caught++
		}
	}
	p.c, p.deeds, p.told = c, append(p.deeds, d), append(p.told, told)
	if err := p.account.note(d, told); err != nil {
		p.t.Fatalf("%d daemons, deed %d: %v", len(p.c.Cores), len(p.deeds), err)
	}
}

// all is all that was told.
func (p *play) all() []api.Told {
	return slices.Concat(p.told...)
}

// written and blotted are made once, since many are drawn of them.
var written, blotted = leaves(), blots()

// drawnFrame is a frame, now and then one that may not be.
func drawnFrame(r *rand.Rand) api.Frame {
	switch r.Intn(6) {
	case 0:
		return blotted[r.Intn(len(blotted))]
	case 1:
		return written[r.Intn(len(written))]
	}
	return page(r.Intn(1 << 30))
}

// tick is a tick of a daemon.
func (p *play) tick(who int) api.Deed {
	return api.Deed{Do: api.DeedTick, Who: who, Frame: drawnFrame(p.r)}
}

// handle is what becomes of a letter.
func (p *play) handle(w weather) api.Deed {
	place := 0
	if w.late {
		place = p.r.Intn(len(p.c.Letters))
	}
	x := p.c.Letters[place]
	d := api.Deed{Do: api.DeedArrive, Who: x.From, To: x.To, Index: p.ahead(place)}
	chance := p.r.Intn(100)
	switch {
	case w.deaf[x.To][x.From] || chance < w.lost:
		d.Do = api.DeedLose
	case chance < w.lost+w.twice:
		d.Do = api.DeedTwice
	case chance < w.lost+w.twice+w.turned:
		d.Do, d.At, d.Mask = api.DeedTurn, p.r.Intn(645)-2, p.r.Uint32()>>p.r.Intn(32)
	}
	return d
}

// ahead is how many letters of a letter's link stand ahead of it.
func (p *play) ahead(place int) int {
	many := 0
	for _, x := range p.c.Letters[:place] {
		if x.From == p.c.Letters[place].From && x.To == p.c.Letters[place].To {
			many++
		}
	}
	return many
}

// odd is a deed that is any, mostly one of nobody.
func (p *play) odd() api.Deed {
	numbers := []int{-1, 0, 1, 2, 7, 8, math.MinInt, math.MaxInt}
	one := func() int { return numbers[p.r.Intn(len(numbers))] }
	return api.Deed{Do: p.r.Intn(9) - 1, Who: one(), To: one(), Index: one(), At: one(), Mask: p.r.Uint32(), Frame: drawnFrame(p.r)}
}

// drawn is a next deed.
func (p *play) drawn(w weather) api.Deed {
	who, daemons := p.r.Intn(len(p.c.Cores)), len(p.c.Cores)
	switch {
	case p.r.Intn(200) < w.down:
		return api.Deed{Do: api.DeedCrash, Who: who}
	case p.r.Intn(60) == 0:
		return api.Deed{Do: api.DeedUp, Who: who}
	case p.r.Intn(100) == 0:
		return p.odd()
	// Seldom enough that the letters of a tick come ahead of the next ones.
	case len(p.c.Letters) == 0 || p.r.Intn(2*daemons*daemons+len(p.c.Letters)) < daemons:
		return p.tick(who)
	}
	return p.handle(w)
}

// many does as many deeds.
func (p *play) many(deeds int) {
	p.t.Helper()
	w := drawnWeather(p.r)
	for range deeds {
		if p.r.Intn(30*len(p.c.Cores)) == 0 {
			w = drawnWeather(p.r)
		}
		p.do(p.drawn(w))
	}
}

// last does as many deeds in one weather.
func (p *play) last(w weather, deeds int) {
	p.t.Helper()
	for range deeds {
		p.do(p.drawn(w))
	}
}

// calm is a round in which all are up, tick, and are heard, in drawn order.
func (p *play) calm() {
	p.t.Helper()
	for _, who := range p.r.Perm(len(p.c.Cores)) {
		p.do(api.Deed{Do: api.DeedUp, Who: who})
		p.do(p.tick(who))
	}
	for len(p.c.Letters) > 0 {
		p.do(p.handle(weather{late: true}))
	}
}

// place is the configuration that a daemon is in, and how many frames of each
// daemon it was told there.
func (p *play) place(who int) (api.Id, map[int]uint32) {
	l := life{who, p.account.incs[who]}
	id := p.account.where[l]
	return id, p.account.counts[stay{l, id}]
}

// together is the configuration of all that all are in, if they are, and how
// many frames were told there to each, at least, of each.
func (p *play) together() (id api.Id, frames uint32, ok bool) {
	var all api.Members
	copy(all[:], p.account.incs)
	id, _ = p.place(0)
	frames = most32
	for who := range p.c.Cores {
		at, counts := p.place(who)
		if at != id || p.account.members[at] != all {
			return api.Id{}, 0, false
		}
		for of := range p.c.Cores {
			frames = min(frames, counts[of])
		}
	}
	return id, frames, true
}

// settle asks that, where all goes well, all come to one configuration of all,
// and each is told a frame of each in each round from then on: ten times. A
// frame that one lacks of somebody who is gone comes to it by others' relays, one
// of up to 24 kept ones a tick, in the order of rounds: so the rounds may be
// some more than it takes to agree.
func (p *play) settle() {
	p.t.Helper()
	bound := p.c.Wait + 80
	var in api.Id
	var had uint32
	lasts := 0
	for n := 0; lasts < 10; n++ {
		p.calm()
		id, frames, ok := p.together()
		if ok && id == in && frames == had+1 {
			lasts++
		} else {
			lasts = 0
		}
		in, had = id, frames
		if n > bound {
			p.t.Fatalf("behind %d rounds in which all went well: %s", n, brief(p.c))
		}
	}
}

// end asks for what holds when all deeds are done.
func (p *play) end() {
	p.t.Helper()
	if err := p.account.close(); err != nil {
		p.t.Fatalf("%d daemons, %d deeds: %v", len(p.c.Cores), len(p.deeds), err)
	}
}

// blank is what was told, without what stands in frames.
func blank(told []api.Told) []api.Told {
	told = slices.Clone(told)
	for i := range told {
		told[i].What.Frame = api.Frame{}
	}
	return told
}

// again asks that the same deeds with other frames come to the same, but for
// what stands in frames.
func (p *play) again(r *rand.Rand) {
	p.t.Helper()
	c := begun(p.t, len(p.c.Cores), p.c.Wait)
	for n, d := range p.deeds {
		d.Frame = drawnFrame(r)
		var told []api.Told
		c, told = cluster.Step(c, d)
		if !slices.Equal(blank(told), blank(p.told[n])) {
			p.t.Fatalf("deed %d, with other frames: told %s, not %s", n, briefTold(told), briefTold(p.told[n]))
		}
	}
	bare := func(l []api.Letter) []api.Letter {
		l = slices.Clone(l)
		for i := range l {
			l[i].Text = ""
		}
		return l
	}
	if !slices.Equal(bare(c.Letters), bare(p.c.Letters)) || !slices.Equal(c.Up, p.c.Up) {
		p.t.Fatalf("with other frames: %s, not %s", brief(c), brief(p.c))
	}
}

// tally is how much was seen of what the promises speak of.
type tally struct{ views, shared, caught, alike, safe, mixed atomic.Int64 }

// add counts what a play has seen: views; frames of others; frames that came to
// one that gathers; those who went on together, with frames of others; who went on
// behind a round that was safe to them; and steps that told frames and a view.
func (y *tally) add(p *play) {
	k := p.account
	y.views.Add(int64(k.views))
	y.shared.Add(int64(k.shared))
	y.caught.Add(int64(p.caught))
	gone := map[[2]api.Id]int{}
	for s, to := range k.next {
		if len(k.counts[s]) > 1 {
			gone[[2]api.Id{s.conf, to}]++
		}
		if len(k.counts[s]) > 1 && k.safeRounds(s) > 0 {
			y.safe.Add(1)
		}
	}
	for _, n := range gone {
		y.alike.Add(int64(n - 1))
	}
	for _, told := range p.told {
		views := 0
		for _, x := range told {
			if x.What.View {
				views++
			}
		}
		if views > 0 && views < len(told) {
			y.mixed.Add(1)
		}
	}
}

// P15.4, P15.5, P15.6, P15.7: drawn deeds from Begin on, and then a time in which
// all goes well; and the same again with other frames.
func TestPlays(t *testing.T) {
	var seen tally
	t.Run("all", func(t *testing.T) {
		for seed := range int64(128) {
			t.Run(fmt.Sprint(seed), func(t *testing.T) {
				t.Parallel()
				r := rand.New(rand.NewSource(seed))
				p := newPlay(t, r, 1+int(seed)%8, 1+r.Intn(10))
				p.many(300 * len(p.c.Cores))
				p.end()
				p.settle()
				p.end()
				seen.add(p)
				p.again(rand.New(rand.NewSource(5000 + seed)))
			})
		}
	})
	for name, x := range map[string]struct{ least, many int64 }{
		"views":                                    {2500, seen.views.Load()},
		"frames of others":                         {20000, seen.shared.Load()},
		"frames to one that gathers":               {300, seen.caught.Load()},
		"who went on like another one":             {150, seen.alike.Load()},
		"who went on behind a round that was safe": {100, seen.safe.Load()},
		"steps that told frames and a view":        {500, seen.mixed.Load()},
	} {
		if x.many < x.least {
			t.Errorf("%d %s: too few to tell", x.many, name)
		}
	}
}

// P15.5: more drawn deeds of few daemons: daemon 0 does not hear the last one,
// which still sends while the others gather without it, and lack frames.
func TestPlaysOfFew(t *testing.T) {
	for seed := range int64(120) {
		t.Run(fmt.Sprint(seed), func(t *testing.T) {
			t.Parallel()
			r := rand.New(rand.NewSource(seed))
			daemons := 3 + int(seed)%2
			p := newPlay(t, r, daemons, 2+r.Intn(4))
			for range 6 {
				p.last(weather{}, 200)
				w := weather{lost: 10 + r.Intn(50), late: r.Intn(2) == 0}
				w.deaf[0][daemons-1] = true
				p.last(w, 200)
			}
			p.end()
		})
	}
}

// P15.7: from Begin on, where all goes well, all come to one configuration of all
// in few rounds.
func TestAllGoesWell(t *testing.T) {
	for daemons := 1; daemons <= 8; daemons++ {
		for _, wait := range []int{1, 3, 1000} {
			p := newPlay(t, rand.New(rand.NewSource(int64(daemons))), daemons, wait)
			for range 20 {
				p.calm()
			}
			if _, frames, ok := p.together(); !ok || frames < 10 {
				t.Errorf("%d daemons: %s", daemons, brief(p.c))
			}
			p.settle()
			p.end()
		}
	}
}
