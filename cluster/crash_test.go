package cluster_test

import (
	"math"
	"slices"
	"testing"

	"congress/api"
)

// P15.2: who goes down is down, with all else as it was; who comes up begins
// anew, with the next incarnation.
func TestCrashAndUp(t *testing.T) {
	for _, daemons := range []int{1, 2, 3, 8} {
		c, _ := swept(t, begun(t, daemons, 4), 5)
		c, _ = agreeStep(t, c, api.Deed{Who: 0})
		for who := range daemons {
			nothing(t, c, api.Deed{Do: api.DeedUp, Who: who})
			down, told := agreeStep(t, c, api.Deed{Do: api.DeedCrash, Who: who})
			asksTold(t, "down", told)
			want := copied(c)
			want.Up[who] = false
			if !sameCluster(down, want) {
				t.Fatalf("%d of %d is down: %s", who, daemons, brief(down))
			}
			nothing(t, down, api.Deed{Do: api.DeedCrash, Who: who})
			for inc := uint32(2); inc < 5; inc++ {
				up, told := agreeStep(t, down, api.Deed{Do: api.DeedUp, Who: who})
				asksTold(t, "up", told)
				want.Up[who], want.Cores[who] = true, beginning(who, inc, 4)
				if !sameCluster(up, want) {
					t.Fatalf("%d of %d comes up: %s", who, daemons, brief(up))
				}
				nothing(t, up, api.Deed{Do: api.DeedUp, Who: who})
				up, _ = agreeStep(t, up, api.Deed{Who: who})
				down, _ = agreeStep(t, up, api.Deed{Do: api.DeedCrash, Who: who})
				want = copied(down)
			}
		}
	}
}

// P15.2: nobody goes down, and nobody comes up.
func TestCrashOfNobody(t *testing.T) {
	for _, daemons := range []int{1, 2, 7, 8} {
		c := begun(t, daemons, 3)
		c, _ = agreeStep(t, c, api.Deed{Do: api.DeedCrash, Who: 0})
		for _, who := range append([]int{daemons, daemons + 1}, strangers...) {
			for to := range daemons {
				nothing(t, c, api.Deed{Do: api.DeedCrash, Who: who, To: to})
				nothing(t, c, api.Deed{Do: api.DeedUp, Who: who, To: to})
			}
		}
	}
}

// P15.2: one that is down, at each deed.
func TestDown(t *testing.T) {
	c := busy(t)
	c, _ = agreeStep(t, c, api.Deed{Do: api.DeedCrash, Who: 1})
	nothing(t, c, api.Deed{Who: 1, Frame: page(1)})
	nothing(t, c, api.Deed{Do: api.DeedTwice, Who: 0, To: 1})
	nothing(t, c, api.Deed{Do: api.DeedTwice, Who: 2, To: 1})
	nothing(t, c, api.Deed{Do: api.DeedCrash, Who: 1})
	for do := api.DeedArrive; do <= api.DeedTurn; do++ {
		for other := range 3 {
			agreeStep(t, c, api.Deed{Do: do, Who: 1, To: other, At: 1, Mask: 1})
			got, told := agreeStep(t, c, api.Deed{Do: do, Who: other, To: 1, At: 1, Mask: 1})
			asksTold(t, "down", told)
			if !slices.EqualFunc(got.Cores, c.Cores, sameCore) || !slices.Equal(got.Up, []bool{true, false, true}) {
				t.Fatalf("deed %d: %s", do, brief(got))
			}
		}
	}
	// The others go on, and write to it too.
	c, _ = agreeStep(t, c, api.Deed{Who: 0})
	if x := c.Letters[len(c.Letters)-2]; x.From != 0 || x.To != 1 {
		t.Errorf("no letter to one that is down: %s", brief(c))
	}
}

// P15.2: the last incarnation stays down.
func TestLastIncarnation(t *testing.T) {
	c := begun(t, 2, 3)
	c.Cores[1] = beginning(1, most32-2, 3)
	c, _ = agreeStep(t, c, api.Deed{Do: api.DeedCrash, Who: 1})
	for _, inc := range []uint32{most32 - 1, most32} {
		c, _ = agreeStep(t, c, api.Deed{Do: api.DeedUp, Who: 1})
		if !c.Up[1] || !sameCore(c.Cores[1], beginning(1, inc, 3)) {
			t.Fatalf("incarnation %d: %s", inc, brief(c))
		}
		up, told := agreeStep(t, c, api.Deed{Who: 1, Frame: page(1)})
		asksTold(t, "a tick", told, frameTold(1, inc, api.Id{Coord: 1, Inc: inc}, 1, 1, page(1)))
		c, _ = agreeStep(t, up, api.Deed{Do: api.DeedCrash, Who: 1})
	}
	nothing(t, c, api.Deed{Do: api.DeedUp, Who: 1})
	nothing(t, c, api.Deed{Who: 1})
	up, _ := agreeStep(t, c, api.Deed{Do: api.DeedCrash, Who: 0})
	up, _ = agreeStep(t, up, api.Deed{Do: api.DeedUp, Who: 0})
	if !slices.Equal(up.Up, []bool{true, false}) {
		t.Errorf("the other one: %s", brief(up))
	}
}

// P15.2: it comes up with the cluster's Wait, and as the daemon that it is,
// whatever its core was; of a Wait with which nobody starts it stays down.
func TestUpWait(t *testing.T) {
	c := begun(t, 3, 3)
	c.Cores[2] = api.Core{Self: -7, Own: 41, Wait: -1}
	c, _ = agreeStep(t, c, api.Deed{Do: api.DeedCrash, Who: 2})
	for _, wait := range []int{1, 5, 1000} {
		c.Wait = wait
		got, _ := agreeStep(t, c, api.Deed{Do: api.DeedUp, Who: 2})
		if !got.Up[2] || !sameCore(got.Cores[2], beginning(2, 42, wait)) {
			t.Errorf("wait %d: %s", wait, brief(got))
		}
	}
	for _, wait := range []int{0, -1, 1001, math.MinInt, math.MaxInt, 1<<32 + 1} {
		c.Wait = wait
		nothing(t, c, api.Deed{Do: api.DeedUp, Who: 2})
	}
}

// P15.2: other deeds than the seven are nothing.
func TestOtherDeeds(t *testing.T) {
	c := busy(t)
	c, _ = agreeStep(t, c, api.Deed{Do: api.DeedCrash, Who: 2})
	for _, do := range []int{-1, 7, 8, -7, math.MinInt, math.MaxInt, 1 << 32, 1<<32 + 1, -1 << 32, 256, 257, 262} {
		for who := -1; who < 4; who++ {
			for to := range 3 {
				nothing(t, c, api.Deed{Do: do, Who: who, To: to, Mask: 1, Frame: page(1)})
			}
		}
	}
}
