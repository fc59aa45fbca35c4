package lane_test

import (
	"math/rand"
	"testing"

	"congress/api"
	"congress/lane"
)

// began is the box of a tenant at a daemon from the beginning on: alone, in a
// configuration of its own.
func began(tenant, daemon int, draws ...uint64) box {
	b := box{tenant: tenant, daemon: daemon, draws: draws, conf: name{0, uint32(daemon), 1}}
	b.members[daemon&7] = 1
	return b
}

// agreeStart asks that a lane of these begins as the account says, and has memory
// of its own.
func agreeStart(t *testing.T, tenant, daemon int, draws []uint64, conf name, members [8]uint32) {
	t.Helper()
	want := box{tenant: tenant, daemon: daemon, draws: draws, conf: conf, members: members}
	given := roomy(draws, itself, 77)
	lists := []memory{memoryOf(given)}
	for range 2 {
		l := lane.Start(tenant, daemon, given, conf.id(), members)
		if got := boxOf(l); !got.same(want) {
			t.Fatalf("Start(%d, %d, %v, %v, %v): %s", tenant, daemon, draws, conf, members, got.unlike(want))
		}
		lists = append(lists, memories(l)...)
	}
	if got := given[:cap(given)]; !equalDraws(got, roomy(draws, itself, 77)) || overlap(lists) {
		t.Fatalf("Start of the draws %v makes %v of them, or shares them", draws, got)
	}
}

// equalDraws tells whether draws are others, with the room behind these.
func equalDraws(got, made []uint64) bool {
	made = made[:cap(made)]
	if len(got) != len(made) {
		return false
	}
	for i, n := range made {
		if got[i] != n {
			return false
		}
	}
	return true
}

// P23.1: every tenant at every daemon, and what is none.
func TestStart(t *testing.T) {
	for _, tenant := range oddInts {
		for _, daemon := range oddInts {
			for _, draws := range [][]uint64{nil, {}, {9}, {9, 7, 0, 9}, make([]uint64, 300)} {
				agreeStart(t, tenant, daemon, draws, name{1, 2, 3}, [8]uint32{1, 0, 3, 0, 0, 0, 0, mostRound})
			}
		}
	}
	agreeStart(t, 0, 0, nil, name{}, [8]uint32{})
	agreeStart(t, 2, 7, []uint64{most}, name{mostRound, mostRound, mostRound}, [8]uint32{1, 2, 3, 4, 5, 6, 7, 8})
}

// P23.1: drawn ones.
func TestDrawnStart(t *testing.T) {
	r := rand.New(rand.NewSource(2310))
	for range 2000 {
		var draws []uint64
		for range r.Intn(6) {
			draws = append(draws, drawnSession(r))
		}
		agreeStart(t, drawnInt(r), drawnInt(r), draws, drawnName(r), drawnMembers(r))
	}
}

// P23.1: a draw that is changed behind Start is not drawn.
func TestStartKeeps(t *testing.T) {
	draws := []uint64{9, 7}
	l := lane.Start(1, 2, draws, api.Id{}, api.Members{})
	draws[0] = 8
	if _, x := lane.Call(l, 1, "open"); x.Handle != 9 {
		t.Errorf("the first handle is %d", x.Handle)
	}
}
