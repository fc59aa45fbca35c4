package cluster_test

import (
	"math"
	"reflect"
	"testing"

	"congress/api"
	"congress/cluster"
	"congress/core"
)

// beginning is the core of a daemon that begins, told by hand.
func beginning(self int, inc uint32, wait int) api.Core {
	id := api.Id{Coord: uint32(self), Inc: inc}
	var alone api.Members
	alone[self] = inc
	return api.Core{Self: self, Own: inc, Wait: wait, Conf: id, Promise: id, Members: alone, Wanted: alone}
}

// P15.1: as many cores as daemons, all up, no letters.
func TestBegin(t *testing.T) {
	for daemons := 1; daemons <= 8; daemons++ {
		for _, wait := range []int{1, 2, 3, 999, 1000} {
			got, ok := cluster.Begin(daemons, wait)
			want := api.Cluster{Wait: wait}
			for who := range daemons {
				want.Cores, want.Up = append(want.Cores, beginning(who, 1, wait)), append(want.Up, true)
				if x, is := core.Start(who, 1, wait); !is || !sameCore(x, want.Cores[who]) {
					t.Fatalf("core.Start(%d, 1, %d) is %+v, %v", who, wait, x, is)
				}
			}
			if !ok || !sameCluster(got, want) {
				t.Errorf("Begin(%d, %d): %s, %v", daemons, wait, brief(got), ok)
			}
			again, _ := cluster.Begin(daemons, wait)
			apart(t, spans("an answer", got, nil), spans("another one", again, nil))
		}
	}
}

// P15.1, P1: of wrong numbers the zero Cluster and false.
func TestBeginRefuses(t *testing.T) {
	refuses := func(daemons, wait int) {
		t.Helper()
		if got, ok := cluster.Begin(daemons, wait); ok || !reflect.DeepEqual(got, api.Cluster{}) {
			t.Errorf("Begin(%d, %d): %s, %v", daemons, wait, brief(got), ok)
		}
	}
	wrongDaemons := []int{-1, 0, 9, 10, -8, math.MinInt, math.MaxInt, 1 << 32, 1<<32 + 1, 1<<32 + 8, math.MinInt + 1}
	wrongWaits := []int{0, 1001, -1, -1000, math.MaxInt, math.MinInt, 1 << 32, 1<<32 + 1, 1<<32 + 1000, -1<<32 + 3}
	for _, daemons := range wrongDaemons {
		for _, wait := range append([]int{1, 3, 1000}, wrongWaits...) {
			refuses(daemons, wait)
		}
	}
	for daemons := 1; daemons <= 8; daemons++ {
		for _, wait := range wrongWaits {
			refuses(daemons, wait)
		}
	}
}
