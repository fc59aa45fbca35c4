package cluster_test

import (
	"slices"
	"strconv"
	"testing"

	"congress/api"
	"congress/cluster"
	"congress/core"
	"congress/packet"
)

// frameTold is a frame that is told, of a daemon's round.
func frameTold(who int, inc uint32, in api.Id, from int, round uint32, f api.Frame) api.Told {
	return api.Told{Who: who, Inc: inc, In: in, What: api.Happen{Kept: api.Kept{From: from, Round: round, Frame: f}}}
}

// viewTold is a view that is told.
func viewTold(who int, inc uint32, in, conf api.Id, m api.Members) api.Told {
	return api.Told{Who: who, Inc: inc, In: in, What: api.Happen{View: true, Conf: conf, Members: m}}
}

// asksTold asks that this was told, and nothing else.
func asksTold(t *testing.T, when string, got []api.Told, want ...api.Told) {
	t.Helper()
	if !slices.Equal(got, want) {
		t.Fatalf("%s: told %s, not %s", when, briefTold(got), briefTold(want))
	}
}

// P15.2: the chapter's example: one daemon, three ticks, three frames.
func TestExample(t *testing.T) {
	c := begun(t, 1, 3)
	alone := api.Id{Inc: 1}
	var deeds []api.Deed
	var want []api.Told
	for n := range 3 {
		deeds = append(deeds, api.Deed{Frame: page(n)})
		want = append(want, frameTold(0, 1, alone, 0, uint32(n+1), page(n)))
	}
	got, told := agreeRun(t, c, deeds)
	asksTold(t, "three ticks", told, want...)
	for n, d := range deeds {
		c, told = agreeStep(t, c, d)
		asksTold(t, "a tick", told, want[n])
	}
	if !sameCluster(got, c) || len(c.Letters) != 0 || c.Cores[0].Count != (api.Counts{3}) {
		t.Errorf("three ticks: %s, %s", brief(got), brief(c))
	}
}

// P15.2: behind a tick a letter goes to each other daemon, from 0 on, up or not.
func TestTickWrites(t *testing.T) {
	for daemons := 1; daemons <= 8; daemons++ {
		c := begun(t, daemons, 3)
		c, _ = agreeStep(t, c, api.Deed{Do: api.DeedCrash, Who: daemons / 2})
		var want []api.Letter
		for who := range daemons {
			if who == daemons/2 && daemons > 1 {
				nothing(t, c, api.Deed{Who: who, Frame: page(who)})
				continue
			}
			var told []api.Told
			was := c
			c, told = agreeStep(t, c, api.Deed{Who: who, Frame: page(who)})
			if !c.Up[who] {
				continue
			}
			x, _, _ := core.Tick(was.Cores[who], page(who))
			text, _ := packet.Encode(core.Packet(x))
			for to := range daemons {
				if to != who {
					want = append(want, api.Letter{From: who, To: to, Text: text})
				}
			}
			if len(text) != 641 || !sameCore(c.Cores[who], x) || !slices.Equal(c.Letters, want) {
				t.Fatalf("of %d: a tick of %d: %s", daemons, who, brief(c))
			}
			asksTold(t, "the first tick", told, frameTold(who, 1, beginning(who, 1, 3).Conf, who, 1, page(who)))
		}
	}
}

// P15.2: of nobody, and of one that is down, a tick is nothing.
func TestTickOfNobody(t *testing.T) {
	for _, daemons := range []int{1, 2, 3, 7, 8} {
		c, _ := swept(t, begun(t, daemons, 3), 2)
		c, _ = agreeStep(t, c, api.Deed{Who: daemons - 1})
		for _, who := range append([]int{daemons, daemons + 1}, strangers...) {
			nothing(t, c, api.Deed{Who: who, To: 1, Frame: page(1)})
		}
		if daemons < 8 {
			nothing(t, c, api.Deed{Who: 7, Frame: page(1)})
		}
		down, _ := agreeStep(t, c, api.Deed{Do: api.DeedCrash, Who: daemons - 1})
		nothing(t, down, api.Deed{Who: daemons - 1, Frame: page(1)})
	}
}

// P15.2: a tick's frame is the one that is given, or the zero one, if that may
// not be; To, Index, At and Mask are of no moment for it.
func TestTickFrame(t *testing.T) {
	c := begun(t, 2, 3)
	in := api.Id{Coord: 1, Inc: 1}
	tell := func(f, want api.Frame) {
		t.Helper()
		got, told := agreeStep(t, c, api.Deed{Who: 1, Frame: f})
		asksTold(t, "a tick of "+briefFrame(f), told, frameTold(1, 1, in, 1, 1, want))
		p, code := packet.Decode(got.Letters[0].Text)
		if code != api.OK || p.Newest != want || p.Round != 1 {
			t.Fatalf("the letter is of %v, round %d, with%s", code, p.Round, briefFrame(p.Newest))
		}
	}
	for _, f := range leaves() {
		tell(f, f)
	}
	for _, f := range blots() {
		tell(f, api.Frame{})
	}
	want, _ := agreeStep(t, c, api.Deed{Who: 1, Frame: page(3)})
	for _, n := range append([]int{0, 1, 2}, strangers...) {
		got, _ := agreeStep(t, c, api.Deed{Who: 1, To: n, Index: n, At: n, Mask: uint32(n), Frame: page(3)})
		if !sameCluster(got, want) {
			t.Fatalf("a tick with To, Index, At and Mask %d: %s", n, brief(got))
		}
	}
}

// filled is letters of a link that is no daemons', as many as is said.
func filled(many int) []api.Letter {
	var l []api.Letter
	for i := range many {
		l = append(l, api.Letter{From: 8, To: 9, Text: strconv.Itoa(i)})
	}
	return l
}

// P15.2: letters are put up to 4096 in all, the first ones of a tick first.
func TestTickRoom(t *testing.T) {
	for _, daemons := range []int{1, 2, 3, 8} {
		for _, under := range []int{0, 4000, 4088, 4089, 4090, 4094, 4095, 4096, 4097, 5000} {
			c := begun(t, daemons, 3)
			c.Letters = filled(under)
			got, told := agreeStep(t, c, api.Deed{Who: daemons - 1, Frame: page(1)})
			want := under
			if daemons > 1 {
				want = min(under+daemons-1, 4096)
			}
			if len(told) != 1 || len(got.Letters) != want {
				t.Fatalf("%d daemons, %d letters: %d letters, told %s", daemons, under, len(got.Letters), briefTold(told))
			}
			for to, x := range got.Letters[min(under, want):] {
				if x.From != daemons-1 || x.To != to {
					t.Fatalf("%d daemons, %d letters: one from %d to %d", daemons, under, x.From, x.To)
				}
			}
		}
	}
}

// P15.2: ticks fill the room that there is, and one tick more puts nothing, but
// it is a tick.
func TestTickFills(t *testing.T) {
	c := begun(t, 8, 3)
	ticks := 0
	for ; len(c.Letters) < 4096; ticks++ {
		c, _ = cluster.Step(c, api.Deed{Who: ticks % 8, Frame: page(ticks)})
	}
	if ticks != 586 || c.Letters[4095].From != 585%8 || c.Letters[4095].To != 0 {
		t.Fatalf("full behind %d ticks, with a letter from %d to %d", ticks, c.Letters[4095].From, c.Letters[4095].To)
	}
	more, told := agreeStep(t, c, api.Deed{Who: 1, Frame: page(1)})
	if !slices.Equal(more.Letters, c.Letters) || len(told) != 1 || more.Cores[1].Now != c.Cores[1].Now+1 {
		t.Fatalf("one tick more: %s, told %s", brief(more), briefTold(told))
	}
	more, _ = agreeStep(t, more, api.Deed{Do: api.DeedLose, Who: 0, To: 5})
	more, _ = agreeStep(t, more, api.Deed{Who: 1})
	if last := more.Letters[4095]; len(more.Letters) != 4096 || last.From != 1 || last.To != 0 {
		t.Fatalf("in the room of one letter there is %d to %d", last.From, last.To)
	}
}

// P15.2: a packet that has no bytes is not sent; the tick is one none the less.
func TestTickWithoutBytes(t *testing.T) {
	spoils := map[string]func(*api.Core){
		"a configuration of daemon 8": func(x *api.Core) { x.Conf.Coord, x.Promise.Coord = 8, 8 },
		"a promise of daemon 2^32-1":  func(x *api.Core) { x.Promise = api.Id{Epoch: 1, Coord: most32, Inc: 1}; x.Epoch = most32 },
		"a relay of daemon 9":         func(x *api.Core) { x.Now = 0; x.Kept = []api.Kept{{}, {From: 9, Round: 1}} },
		"an older frame": func(x *api.Core) {
			x.Kept, x.Count = []api.Kept{{From: 1, Round: 1, Frame: blots()[7]}}, api.Counts{0, 1}
		},
		"a relayed frame": func(x *api.Core) { x.Now = 0; x.Kept = []api.Kept{{}, {From: 2, Round: 1, Frame: blots()[8]}} },
	}
	for name, spoil := range spoils {
		c := begun(t, 3, 3)
		c.Letters = filled(3)
		spoil(&c.Cores[1])
		got, _ := agreeStep(t, c, api.Deed{Who: 1, Frame: page(1)})
		if !slices.Equal(got.Letters, c.Letters) || got.Cores[1].Now != c.Cores[1].Now+1 {
			t.Errorf("%s: %s", name, brief(got))
		}
		c.Letters = filled(5000)
		got, _ = agreeStep(t, c, api.Deed{Who: 1, Frame: page(1)})
		if len(got.Letters) != 5000 {
			t.Errorf("%s: of 5000 letters there are %d", name, len(got.Letters))
		}
	}
}

// P15.2: what is told has its daemon, incarnation and configuration: two daemons
// that come together, told by hand, and then one of them alone.
func TestTold(t *testing.T) {
	c := begun(t, 2, 3)
	a, b, both := api.Id{Inc: 1}, api.Id{Coord: 1, Inc: 1}, api.Id{Epoch: 1, Inc: 1}
	m := api.Members{1, 1}
	var told []api.Told
	do := func(when string, d api.Deed, want ...api.Told) {
		t.Helper()
		c, told = agreeStep(t, c, d)
		asksTold(t, when, told, want...)
	}
	tick := func(who, n int) api.Deed { return api.Deed{Who: who, Frame: page(n)} }
	letter := func(from, to int) api.Deed { return api.Deed{Do: api.DeedArrive, Who: from, To: to} }
	do("0 is alone", tick(0, 1), frameTold(0, 1, a, 0, 1, page(1)))
	do("1 is alone", tick(1, 2), frameTold(1, 1, b, 1, 1, page(2)))
	do("1 hears 0", letter(0, 1))
	do("0 hears 1", letter(1, 0))
	do("0 proposes", tick(0, 3))
	do("1 adopts", letter(0, 1))
	do("1 is ready", tick(1, 4))
	do("0 installs", letter(1, 0), viewTold(0, 1, a, both, m))
	do("0 sends", tick(0, 5), frameTold(0, 1, both, 0, 1, page(5)))
	do("1 installs", letter(0, 1), viewTold(1, 1, b, both, m))
	do("1 sends", tick(1, 6), frameTold(1, 1, both, 1, 1, page(6)))
	do("0 takes it", letter(1, 0), frameTold(0, 1, both, 1, 1, page(6)))
	do("0 sends again", tick(0, 7), frameTold(0, 1, both, 0, 2, page(7)))
	do("1 takes the first one of both", letter(0, 1), frameTold(1, 1, both, 0, 1, page(5)))
	do("1 goes down", api.Deed{Do: api.DeedCrash, Who: 1})
	// It was heard last at 0's third tick, of which the seventh is 4 away.
	for range 2 {
		do("0 waits", tick(0, 8))
	}
	last := api.Id{Epoch: 2, Inc: 1}
	do("0 is alone again", tick(0, 9), viewTold(0, 1, both, last, api.Members{1}), frameTold(0, 1, last, 0, 1, page(9)))
	do("1 comes up", api.Deed{Do: api.DeedUp, Who: 1})
	do("1 is alone again", tick(1, 10), frameTold(1, 2, api.Id{Coord: 1, Inc: 2}, 1, 1, page(10)))
}

// P15.2: a letter may tell several frames, and behind them a view.
func TestToldSeveral(t *testing.T) {
	c := begun(t, 3, 3)
	in, to := api.Id{Epoch: 4, Inc: 1}, api.Id{Epoch: 5, Inc: 1}
	m, w := api.Members{1, 1, 1}, api.Members{1, 1}
	p := api.Packet{From: 1, Inc: 1, Conf: in, Members: m, Count: api.Counts{1, 2, 1}, Promise: to, Wanted: w, Ready: true, Epoch: 5}
	p.Round, p.Older, p.Newest, p.RelayOf, p.RelayRound, p.Relay = 2, page(1), page(2), 2, 1, page(3)
	text, code := packet.Encode(p)
	if code != api.OK {
		t.Fatal(code)
	}
	x := &c.Cores[0]
	x.Now, x.Conf, x.Members, x.Count = 1, in, m, api.Counts{1}
	x.Promise, x.Wanted, x.Cut, x.Epoch = to, w, api.Counts{1}, 5
	c.Letters = []api.Letter{{From: 1, To: 0, Text: text}}
	for _, do := range []int{api.DeedArrive, api.DeedTwice} {
		got, told := agreeStep(t, c, api.Deed{Do: do, Who: 1, To: 0})
		asksTold(t, "a letter", told,
			frameTold(0, 1, in, 1, 1, page(1)), frameTold(0, 1, in, 1, 2, page(2)), frameTold(0, 1, in, 2, 1, page(3)),
			viewTold(0, 1, in, to, w))
		if got.Cores[0].Conf != to {
			t.Errorf("it is in %v", got.Cores[0].Conf)
		}
	}
}
