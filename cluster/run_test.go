package cluster_test

import (
	"math/rand"
	"testing"

	"congress/api"
	"congress/cluster"
)

// P15.3: no deeds, and one.
func TestRunFew(t *testing.T) {
	for _, c := range []api.Cluster{{}, {Cores: []api.Core{}, Up: []bool{}, Letters: []api.Letter{}}, begun(t, 1, 3), begun(t, 8, 1000), busy(t)} {
		for _, l := range [][]api.Deed{nil, {}} {
			if got, told := agreeRun(t, c, l); !sameCluster(got, c) || len(told) != 0 {
				t.Errorf("no deeds: %s, told %s", brief(got), briefTold(told))
			}
		}
		for do := -1; do <= api.Deeds; do++ {
			for who := range 3 {
				d := api.Deed{Do: do, Who: who, To: (who + 1) % 3, Index: -1, At: 7, Mask: 7, Frame: page(who)}
				got, told := agreeRun(t, c, []api.Deed{d})
				want, tells := agreeStep(t, c, d)
				if !sameCluster(got, want) {
					t.Errorf("%s: %s", briefDeed(d), brief(got))
				}
				asksTold(t, briefDeed(d), told, tells...)
			}
		}
	}
}

// P15.3: many deeds are Step by Step, however they are parted.
func TestRunMany(t *testing.T) {
	for seed := range int64(16) {
		r := rand.New(rand.NewSource(seed))
		p := newPlay(t, r, 1+int(seed)%8, 4)
		p.many(150)
		c, told := agreeRun(t, begun(t, len(p.c.Cores), 4), p.deeds)
		if !sameCluster(c, p.c) {
			t.Fatalf("play %d: %s, not %s", seed, brief(c), brief(p.c))
		}
		asksTold(t, "a play", told, p.all()...)
		part := r.Intn(len(p.deeds))
		half, first := agreeRun(t, begun(t, len(p.c.Cores), 4), p.deeds[:part])
		c, second := agreeRun(t, half, p.deeds[part:])
		if !sameCluster(c, p.c) {
			t.Fatalf("play %d, parted at %d: %s, not %s", seed, part, brief(c), brief(p.c))
		}
		asksTold(t, "a play in two parts", append(first, second...), told...)
	}
}

// P15.3, R3: the same answers each time.
func TestRunAgain(t *testing.T) {
	p := newPlay(t, rand.New(rand.NewSource(153)), 3, 3)
	p.many(300)
	first, told := cluster.Run(begun(t, 3, 3), p.deeds)
	for range 3 {
		again, tells := cluster.Run(begun(t, 3, 3), p.deeds)
		if !sameCluster(again, first) {
			t.Fatalf("%s, and then %s", brief(first), brief(again))
		}
		asksTold(t, "again", tells, told...)
		apart(t, append(spans("one answer", first, told), spans("another one", again, tells)...), nil)
	}
}
