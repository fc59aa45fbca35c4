package cluster_test

import (
	"math"
	"math/rand"
	"slices"
	"testing"

	"congress/api"
	"congress/cluster"
	"congress/packet"
)

// drawnEdge is a number near 0, or at the ends.
func drawnEdge(r *rand.Rand) uint32 {
	switch r.Intn(8) {
	case 0:
		return most32 - uint32(r.Intn(2))
	case 1:
		return r.Uint32()
	}
	return uint32(r.Intn(9))
}

func drawnInt(r *rand.Rand) int {
	l := []int{-1, 0, 1, 2, 3, 7, 8, 9, 1000, 1001, math.MinInt, math.MaxInt, 1 << 32, -1 << 32}
	return l[r.Intn(len(l))]
}

func drawnId(r *rand.Rand) api.Id {
	return api.Id{Epoch: drawnEdge(r), Coord: drawnEdge(r), Inc: drawnEdge(r)}
}

func drawnMembers(r *rand.Rand) (m [8]uint32) {
	for i := range m {
		if r.Intn(2) == 0 {
			m[i] = drawnEdge(r)
		}
	}
	return m
}

// drawnCore is a core whose numbers are any.
func drawnCore(r *rand.Rand) api.Core {
	c := api.Core{Self: drawnInt(r), Own: drawnEdge(r), Wait: drawnInt(r), Epoch: drawnEdge(r), Ready: r.Intn(2) == 0}
	if r.Intn(2) == 0 {
		c.Self, c.Own, c.Wait = r.Intn(8), 1+uint32(r.Intn(2)), 1+r.Intn(5)
	}
	c.Beat = api.Beat{Now: drawnEdge(r), Heard: drawnMembers(r), Inc: drawnMembers(r)}
	c.Conf, c.Promise = drawnId(r), drawnId(r)
	if r.Intn(2) == 0 {
		c.Promise = c.Conf
	}
	c.Members, c.Wanted = drawnMembers(r), drawnMembers(r)
	c.Count, c.Cut = drawnMembers(r), drawnMembers(r)
	for range r.Intn(5) {
		c.Kept = append(c.Kept, api.Kept{From: drawnInt(r), Round: drawnEdge(r), Frame: drawnFrame(r)})
	}
	for i := range c.Peers {
		c.Peers[i] = api.Peer{Inc: drawnEdge(r), Conf: c.Conf, Promise: c.Promise, Cut: drawnMembers(r), Ready: r.Intn(2) == 0}
	}
	return c
}

// drawnPacket is the bytes of a packet whose numbers are any.
func drawnPacket(r *rand.Rand) string {
	p := api.Packet{
		From: uint32(r.Intn(8)), Inc: drawnEdge(r), Conf: drawnId(r), Members: drawnMembers(r), Count: drawnMembers(r),
		Promise: drawnId(r), Wanted: drawnMembers(r), Ready: r.Intn(2) == 0, Epoch: drawnEdge(r), Round: drawnEdge(r),
		Newest: cleanPage(drawnFrame(r)), Older: cleanPage(drawnFrame(r)),
		RelayOf: uint32(r.Intn(8)), RelayRound: drawnEdge(r), Relay: cleanPage(drawnFrame(r)),
	}
	p.Conf.Coord, p.Promise.Coord = uint32(r.Intn(8)), uint32(r.Intn(8))
	text, code := packet.Encode(p)
	if code != api.OK {
		panic(code)
	}
	return text
}

// drawnCluster is a cluster whose numbers are any, of as many cores, daemons that
// are up or not, and letters.
func drawnCluster(r *rand.Rand, cores, up, letters int) api.Cluster {
	c := api.Cluster{Wait: drawnInt(r)}
	for range cores {
		c.Cores = append(c.Cores, drawnCore(r))
	}
	for range up {
		c.Up = append(c.Up, r.Intn(4) > 0)
	}
	for range letters {
		x := api.Letter{From: drawnInt(r), To: drawnInt(r), Text: "no packet", Turned: r.Intn(4) == 0}
		if r.Intn(3) > 0 {
			x.From, x.To = r.Intn(cores+1), r.Intn(cores+1)
		}
		if r.Intn(4) > 0 {
			x.Text = drawnPacket(r)
		}
		c.Letters = append(c.Letters, x)
	}
	return c
}

// drawnDeed is a deed whose numbers are any, mostly one that does something.
func drawnDeed(r *rand.Rand, c api.Cluster) api.Deed {
	d := api.Deed{Do: r.Intn(9) - 1, Who: drawnInt(r), To: drawnInt(r), Index: drawnInt(r), At: drawnInt(r), Mask: r.Uint32(), Frame: drawnFrame(r)}
	if r.Intn(2) == 0 {
		d.Who, d.To = r.Intn(len(c.Cores)+1), r.Intn(len(c.Cores)+1)
	}
	if n := len(c.Letters); n > 0 && r.Intn(2) == 0 {
		x := c.Letters[r.Intn(n)]
		d.Who, d.To, d.At = x.From, x.To, r.Intn(641)
	}
	return d
}

// P15.2, P1: a cluster of cores whose numbers are any, of none, and of more than
// 8, with letters of any links: Step is what its parts say.
func TestStepOfAnyCluster(t *testing.T) {
	r := rand.New(rand.NewSource(152))
	told, changed := 0, 0
	for range 6000 {
		n := r.Intn(11)
		c := drawnCluster(r, n, n, r.Intn(8))
		d := drawnDeed(r, c)
		got, tells := agreeStep(t, c, d)
		told += len(tells)
		if !sameCluster(got, c) {
			changed++
		}
	}
	if told < 100 || changed < 1000 {
		t.Errorf("%d told, %d changed: too few to tell", told, changed)
	}
}

// P15.2: cores that share one list do so no more in the answer.
func TestStepOfSharedLists(t *testing.T) {
	r := rand.New(rand.NewSource(1520))
	one := []api.Kept{{From: 0, Round: 1, Frame: page(1)}, {From: 1, Round: 1, Frame: page(2)}, {From: 2, Round: 1}}
	for range 500 {
		c := drawnCluster(r, 4, 4, 5)
		for i := range c.Cores {
			c.Cores[i].Kept = one[:r.Intn(4)]
		}
		was := copied(c)
		d := drawnDeed(r, c)
		got, told := cluster.Step(c, d)
		apart(t, spans("the answer", got, told), spans("what was given", c, nil))
		got, told = cluster.Run(c, []api.Deed{d, d})
		apart(t, spans("the answer", got, told), spans("what was given", c, nil))
		if !sameCluster(c, was) {
			t.Fatalf("what was given became %s", brief(c))
		}
	}
}

// P15.2, P15.3, P1: where Cores and Up are not as many the calls end, and leave
// alone what was given.
func TestStepOfUnlikeLists(t *testing.T) {
	r := rand.New(rand.NewSource(1521))
	for _, cores := range []int{0, 1, 2, 3, 8, 9, 12} {
		for _, up := range []int{0, 1, 2, 3, 8, 9, 12} {
			for range 5 {
				c := drawnCluster(r, cores, up, r.Intn(6))
				var deeds []api.Deed
				for range 30 {
					deeds = append(deeds, drawnDeed(r, c))
				}
				for do := range api.Deeds {
					for _, who := range append([]int{cores - 1, cores, up - 1, up}, strangers...) {
						deeds = append(deeds, api.Deed{Do: do, Who: who, To: (cores + up) / 2}, api.Deed{Do: do, Who: 0, To: who})
					}
				}
				given, was := loose(c), loose(c)
				ends(t, "Step and Run", func() {
					for _, d := range deeds {
						got, told := cluster.Step(given, d)
						apart(t, spans("the answer", got, told), spans("what was given", given, nil))
					}
					got, told := cluster.Run(given, deeds)
					apart(t, spans("the answer", got, told), spans("what was given", given, nil))
				})
				asGiven(t, given, was)
			}
		}
	}
}

// P1, R5: the zero Cluster, and one of empty lists.
func TestStepOfNothing(t *testing.T) {
	for _, c := range []api.Cluster{{}, {Wait: 3}, {Cores: []api.Core{}, Up: []bool{}, Letters: []api.Letter{}}} {
		for do := -1; do <= api.Deeds; do++ {
			for _, n := range append([]int{0, 1, 7}, strangers...) {
				nothing(t, c, api.Deed{Do: do, Who: n, To: n, Index: n, At: n, Mask: uint32(n), Frame: page(1)})
				nothing(t, c, api.Deed{Do: do, Who: 0, To: n})
			}
		}
	}
}

// P15.2, R5: empty lists are as good as none.
func TestStepOfEmptyLists(t *testing.T) {
	bare, laid := begun(t, 3, 3), begun(t, 3, 3)
	bare.Letters, laid.Letters = nil, []api.Letter{}
	for i := range laid.Cores {
		bare.Cores[i].Kept, laid.Cores[i].Kept = nil, []api.Kept{}
	}
	r := rand.New(rand.NewSource(15))
	for range 200 {
		d := drawnDeed(r, bare)
		var one, two []api.Told
		bare, one = agreeStep(t, bare, d)
		laid, two = agreeStep(t, laid, d)
		if !sameCluster(bare, laid) || !slices.Equal(one, two) {
			t.Fatalf("%s: %s, and of empty lists %s", briefDeed(d), brief(bare), brief(laid))
		}
	}
}

// P15.2: with more letters than there is room for: what is not a tick leaves
// them there.
func TestStepOfManyLetters(t *testing.T) {
	c := begun(t, 3, 3)
	c, _ = agreeStep(t, c, api.Deed{Who: 0, Frame: page(1)})
	c.Letters = slices.Concat(c.Letters, filled(4200), c.Letters)
	for do := -1; do <= api.Deeds; do++ {
		got, _ := agreeStep(t, c, api.Deed{Do: do, Who: 0, To: 2, Index: 1, Mask: 1})
		want := map[int]int{api.DeedTick: 4096, api.DeedArrive: 4203, api.DeedLose: 4203}[do]
		if want == 0 {
			want = 4204
		}
		if len(got.Letters) != want {
			t.Errorf("deed %d: %d letters", do, len(got.Letters))
		}
	}
}
