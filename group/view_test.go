package group_test

import (
	"math"
	"slices"
	"testing"

	"congress/api"
)

// P18.2: each group's view, of tables with many, with one, and with none of it.
func TestView(t *testing.T) {
	all := []int{0, 1, 2, 3, 4, 5, 6, 7}
	full := every(all, all, []uint64{0, 9, 65535})
	for n := -1; n <= 8; n++ {
		var want party
		if n >= 0 && n <= 7 {
			want = every([]int{n}, all, []uint64{0, 9, 65535})
		}
		if got := agreeView(t, full, n); !got.same(want) {
			t.Errorf("View %d is %s", n, got)
		}
		if got := agreeView(t, want, n); !got.same(want) {
			t.Errorf("View %d of those of it alone is %s", n, got)
		}
		others := full.where(func(g guest) bool { return g.group != n })
		if got := agreeView(t, others, n); len(got) != 0 {
			t.Errorf("View %d of the others is %s", n, got)
		}
		if got := agreeView(t, nil, n); len(got) != 0 {
			t.Errorf("View %d of nothing is %s", n, got)
		}
		if got := agreeView(t, party{{3, n & 7, uint64(n & 7)}}, n); len(got) == 1 != (n == 3) {
			t.Errorf("View %d of daemon and session %d in group 3 is %s", n, n&7, got)
		}
	}
}

// P18.2: a group's number is the whole of it, also out of its range.
func TestViewOdd(t *testing.T) {
	p := every(oddInts, []int{2, 1}, []uint64{65536, 0})
	for _, n := range oddInts {
		if got, want := agreeView(t, p, n), every([]int{n}, []int{2, 1}, []uint64{65536, 0}); !got.same(want) {
			t.Errorf("View %d is %s, not %s", n, got, want)
		}
		table := every([]int{0, 1, 2, 3, 4, 5, 6, 7}, []int{0}, []uint64{1})
		if got := agreeView(t, table, n); len(got) == 1 != (n >= 0 && n <= 7) {
			t.Errorf("View %d of a table is %s", n, got)
		}
	}
}

// P18.2: they come in the order in which they stand, each as often as it stands.
func TestViewOrder(t *testing.T) {
	p := party{{4, 9, 9}, {2, 7, 1}, {4, 1, 1}, {4, 9, 9}, {3, 0, 0}, {4, -1, most}, {2, 6, 1}}
	if got := agreeView(t, p, 4); !got.same(party{{4, 9, 9}, {4, 1, 1}, {4, 9, 9}, {4, -1, most}}) {
		t.Errorf("View 4 is %s", got)
	}
	if got := agreeView(t, p, 2); !got.same(party{{2, 7, 1}, {2, 6, 1}}) {
		t.Errorf("View 2 is %s", got)
	}
}

// incarnations are some that are not 0.
var incarnations = []uint32{1, 2, 3, 255, 256, 65535, 65536, 1<<31 - 1, 1 << 31, 1 << 24, math.MaxUint32 - 1, math.MaxUint32}

// P18.2: no members, all, each one alone, all but one; of each incarnation.
func TestKeep(t *testing.T) {
	all := []int{0, 1, 2, 3, 4, 5, 6, 7}
	full := every(all, all, []uint64{0, 9, 65535})
	if got := agreeKeep(t, full, api.Members{}); len(got) != 0 {
		t.Errorf("of no members: %s", got)
	}
	for _, inc := range incarnations {
		whole := api.Members{inc, inc, inc, inc, inc, inc, inc, inc}
		if got := agreeKeep(t, full, whole); !got.same(full) {
			t.Errorf("of all: %s", got)
		}
		for d := range 8 {
			var alone api.Members
			alone[d] = inc
			if got, want := agreeKeep(t, full, alone), every(all, []int{d}, []uint64{0, 9, 65535}); !got.same(want) {
				t.Errorf("of %d alone: %s", d, got)
			}
			but := whole
			but[d] = 0
			if got, want := agreeKeep(t, full, but), full.where(func(g guest) bool { return g.daemon != d }); !got.same(want) {
				t.Errorf("of all but %d: %s", d, got)
			}
		}
	}
}

// P18.2: each set of members, by the daemon alone: not by the group, nor by the
// session.
func TestKeepSets(t *testing.T) {
	p := party{{0, 1, 2}, {0, 6, 5}, {1, 0, 3}, {2, 2, 2}, {3, 4, 0}, {3, 5, 1}, {5, 3, 4}, {7, 7, 6}}
	for set := range 256 {
		var m api.Members
		var want party
		for d := range m {
			m[d] = uint32(set>>d&1) * incarnations[(set+d)%len(incarnations)]
		}
		for _, g := range p {
			if set>>g.daemon&1 == 1 {
				want = append(want, g)
			}
		}
		if got := agreeKeep(t, p, m); !got.same(want) {
			t.Fatalf("Keep %v is %s, not %s", m, got, want)
		}
	}
}

// P18.2: a daemon that is not 0 to 7 is none of any members.
func TestKeepOdd(t *testing.T) {
	p := every([]int{0, 9, -1}, oddInts, []uint64{0, most})
	for _, m := range someMembers {
		got := agreeKeep(t, p, m)
		for _, g := range p {
			if want := g.daemon >= 0 && g.daemon <= 7 && m[g.daemon&7] > 0; slices.Contains(got, g) != want {
				t.Errorf("Keep %v of %v is %v", m, g, !want)
			}
		}
	}
}

// P18.2: they come in the order in which they stand, each as often as it stands,
// whatever group and session they have.
func TestKeepOrder(t *testing.T) {
	p := party{{9, 4, most}, {2, 7, 1}, {0, 4, 1}, {9, 4, most}, {3, 0, 0}, {-1, 5, 2}, {2, 8, 1}}
	if got := agreeKeep(t, p, api.Members{0, 0, 0, 0, 7, 7}); !got.same(party{{9, 4, most}, {0, 4, 1}, {9, 4, most}, {-1, 5, 2}}) {
		t.Errorf("Keep 4 and 5 is %s", got)
	}
}
