package daemon_test

import (
	"math"
	"reflect"
	"slices"
	"testing"

	"congress/api"
	"congress/daemon"
)

// oddInts are numbers at the edges of their type, and of what may be, and some that
// are the same as those in some of their bits.
var oddInts = []int{0, 1, 2, 3, 4, 7, 8, -1, -2, -8, 9, 255, 256, 999, 1000, 1001, 1 << 16, 1 << 31, 1 << 32, 1<<32 + 1, -1 << 32, math.MinInt, math.MinInt + 1, math.MaxInt - 1, math.MaxInt}

// alone is a daemon that comes up, told without the program's calls.
func alone(self int, inc uint32, wait int, draws [api.Tenants][]uint64, used [api.Tenants]int) api.Daemon {
	id := api.Id{Epoch: 0, Coord: uint32(self), Inc: inc}
	var m api.Members
	m[self] = inc
	d := api.Daemon{Core: api.Core{Self: self, Own: inc, Wait: wait, Conf: id, Members: m, Promise: id, Wanted: m}}
	for tenant := range 3 {
		d.Lanes[tenant] = api.Lane{Tenant: tenant, Daemon: self, Draws: draws[tenant], Used: used[tenant], Conf: id, Members: m}
	}
	return d
}

// P24.1: of each self, incarnation and wait, what core.Start makes of them, and a
// lane for each tenant; or the zero daemon and false.
func TestStart(t *testing.T) {
	draws, used := [api.Tenants][]uint64{{9}, nil, {4, 5}}, [api.Tenants]int{0, 0, 1}
	for _, self := range oddInts {
		for _, inc := range []uint32{0, 1, 2, 1 << 31, most32 - 1, most32} {
			for _, wait := range oddInts {
				d, ok := daemon.Start(self, inc, wait, draws, used)
				may := self >= 0 && self < 8 && inc > 0 && wait > 0 && wait <= 1000
				if ok != may {
					t.Fatalf("Start(%d, %d, %d): %v", self, inc, wait, ok)
				}
				if !may {
					if !reflect.DeepEqual(d, api.Daemon{}) {
						t.Fatalf("Start(%d, %d, %d): %s beside false", self, inc, wait, short(d))
					}
				} else if want := alone(self, inc, wait, draws, used); !sameDaemon(d, want) {
					t.Fatalf("Start(%d, %d, %d): %s", self, inc, wait, unlikeDaemon(d, want))
				}
			}
		}
	}
}

// P24.1: each tenant's draws, and how many are used up, are its own: none, some,
// more than there are, fewer than none.
func TestStartDraws(t *testing.T) {
	lists := [][]uint64{nil, {}, {1}, {0, 0}, {9, 8, 7, math.MaxUint64}}
	for _, first := range lists {
		for _, used := range oddInts {
			for tenant := range 3 {
				var draws [api.Tenants][]uint64
				var ups [api.Tenants]int
				draws[tenant], draws[(tenant+1)%3] = first, []uint64{33}
				ups[tenant], ups[(tenant+2)%3] = used, 5
				d, ok := daemon.Start(3, 2, 9, draws, ups)
				if want := alone(3, 2, 9, draws, ups); !ok || !sameDaemon(d, want) {
					t.Fatalf("draws %v, used %v: %v, %s", draws, ups, ok, unlikeDaemon(d, want))
				}
			}
		}
	}
}

// P24.1: the handle that is given first is the draw behind those that are used up,
// or 2^63 and how many are.
func TestStartUsed(t *testing.T) {
	for _, c := range []struct {
		used   int
		handle uint64
	}{{0, 11}, {1, 12}, {2, 13}, {3, 1<<63 + 3}, {4, 1<<63 + 4}, {1000, 1<<63 + 1000}, {math.MaxInt, 1<<64 - 1}} {
		draws := [api.Tenants][]uint64{{21, 22}, {11, 12, 13}, {31}}
		d, ok := daemon.Start(0, 1, 3, draws, [api.Tenants]int{0, c.used, 0})
		if !ok {
			t.Fatal("Start is false")
		}
		for tenant, handle := range []uint64{21, c.handle, 31} {
			if _, notes := agreeCall(t, d, tenant, "open"); notes[0].Handle != handle {
				t.Errorf("%d used: tenant %d has the handle %d", c.used, tenant, notes[0].Handle)
			}
		}
	}
}

// R4: lists that are given are not the ones that are answered, nor are they
// changed, also where one list is given for all.
func TestStartMemory(t *testing.T) {
	row := roomy([]uint64{1, 2, 3}, 77)
	was := slices.Clone(row[:cap(row)])
	lists := []memory{memoryOf(row)}
	for range 2 {
		d, ok := daemon.Start(1, 1, 1, [api.Tenants][]uint64{row, row, row[:2]}, [api.Tenants]int{})
		if !ok {
			t.Fatal("Start is false")
		}
		lists = append(lists, memories(d)...)
	}
	if overlap(lists) || !slices.Equal(row[:cap(row)], was) {
		t.Errorf("draws are shared, or became %v", row[:cap(row)])
	}
}
