package group_test

import (
	"fmt"
	"slices"
	"testing"

	"congress/api"
	"congress/group"
)

// The chapter's example.
func TestExample(t *testing.T) {
	one, ok := group.Apply(nil, 2, api.Entry{Kind: api.EntJoin, Service: api.SvcAgreed, Group: 1, Session: 5})
	if !ok {
		t.Fatal("daemon 2's session 5 is not new")
	}
	both, ok := group.Apply(one, 0, api.Entry{Kind: api.EntJoin, Service: api.SvcAgreed, Group: 1, Session: 9})
	if !ok {
		t.Fatal("daemon 0's session 9 is not new")
	}
	if v, want := partyOf(group.View(both, 1)), (party{{1, 0, 9}, {1, 2, 5}}); !v.same(want) {
		t.Fatalf("the view of 1 is %s, not %s", v, want)
	}
}

// rows are tables of guests who stand in order, by unlike fields.
var rows = []party{
	{{3, 4, 5}},
	{{3, 4, 5}, {3, 4, 6}, {3, 4, 7}, {3, 4, 9}},
	{{3, 1, 9}, {3, 2, 8}, {3, 4, 7}, {3, 7, 0}},
	{{0, 7, 65535}, {1, 6, 9}, {5, 5, 5}, {7, 0, 0}},
	{{0, 0, 0}, {0, 0, 65535}, {0, 7, 0}, {3, 1, 9}, {3, 2, 0}, {7, 0, 65535}, {7, 7, 65535}},
}

// P18.1: a join at each place: the first, one between, the last; the others are
// as they were.
func TestJoinPlaces(t *testing.T) {
	for _, row := range rows {
		for at, g := range row {
			others := slices.Delete(slices.Clone(row), at, at+1)
			got, ok := agreeApply(t, others, deed{joins, g})
			if !ok || !got.same(row) {
				t.Fatalf("join of %v into %s is %s, %v", g, others, got, ok)
			}
		}
	}
}

// P18.1: a join into an empty table.
func TestJoinEmpty(t *testing.T) {
	for _, g := range every([]int{0, 1, 7}, []int{0, 1, 7}, []uint64{0, 1, 65535}) {
		got, ok := agreeApply(t, nil, deed{joins, g})
		if !ok || !got.same(party{g}) {
			t.Fatalf("join of %v is %s, %v", g, got, ok)
		}
	}
}

// P18.1: a join of one who is there already, wherever it stands, changes
// nothing.
func TestJoinThere(t *testing.T) {
	for _, row := range rows {
		for _, g := range row {
			if got, ok := agreeApply(t, row, deed{joins, g}); ok || !got.same(row) {
				t.Fatalf("join of %v into %s is %s, %v", g, row, got, ok)
			}
		}
	}
}

// P18.1: a leave of each one: the first, one between, the last, the only one.
func TestLeavePlaces(t *testing.T) {
	for _, row := range rows {
		for at, g := range row {
			others := slices.Delete(slices.Clone(row), at, at+1)
			got, ok := agreeApply(t, row, deed{leaves, g})
			if !ok || !got.same(others) {
				t.Fatalf("leave of %v out of %s is %s, %v", g, row, got, ok)
			}
			if got, ok := agreeApply(t, others, deed{leaves, g}); ok || !got.same(others) {
				t.Fatalf("another leave of %v out of %s is %s, %v", g, others, got, ok)
			}
		}
	}
}

// near is guests that differ from one in one field alone.
func near(g guest) party {
	var p party
	for n := range 8 {
		p = append(p, guest{n, g.daemon, g.session}, guest{g.group, n, g.session})
	}
	for bit := range 16 {
		p = append(p, guest{g.group, g.daemon, g.session ^ 1<<bit})
	}
	return p.where(func(other guest) bool { return other != g })
}

// P18.1: one who differs from those that are there in one field alone is not
// there: its leave changes nothing, its join does.
func TestAlmostThere(t *testing.T) {
	for _, g := range every([]int{0, 3, 7}, []int{0, 3, 7}, []uint64{0, 5, 65535}) {
		for _, other := range near(g) {
			p := party{g}
			if got, ok := agreeApply(t, p, deed{leaves, other}); ok || !got.same(p) {
				t.Fatalf("leave of %v out of %s is %s, %v", other, p, got, ok)
			}
			if got, ok := agreeApply(t, p, deed{joins, other}); !ok || len(got) != 2 {
				t.Fatalf("join of %v into %s is %s, %v", other, p, got, ok)
			}
		}
	}
	if got, ok := agreeApply(t, nil, deed{leaves, guest{}}); ok || len(got) != 0 {
		t.Fatalf("leave out of nothing is %s, %v", got, ok)
	}
}

// P18.1: any other kind of entry changes nothing, of one who is there and of one
// who is not.
func TestOtherKinds(t *testing.T) {
	for _, kind := range []int{nothing, sends, 4, 5, 6, 7, -1, -2, -3, 258, 259, 1<<32 + 2, 1<<32 + 3, leastInt, leastInt + 2, mostInt} {
		for _, row := range append(rows, nil) {
			for _, g := range append(slices.Clone(row), guest{2, 2, 2}, guest{}) {
				if got, ok := agreeApply(t, row, deed{kind, g}); ok || !got.same(row) {
					t.Fatalf("kind %d of %v: %s became %s, %v", kind, g, row, got, ok)
				}
			}
		}
	}
}

// P18.1: a group, a daemon, or a session out of its range, alone or with
// others, changes nothing, also where it stands there.
func TestApplyRange(t *testing.T) {
	for _, g := range every(oddInts, oddInts, oddSessions) {
		can := g.group >= 0 && g.group <= 7 && g.daemon >= 0 && g.daemon <= 7 && g.session <= 65535
		for _, kind := range []int{joins, leaves} {
			e := deed{kind, g}.entry()
			without, ok := group.Apply(nil, g.daemon, e)
			if joined := can && kind == joins; ok != joined || len(without) == 1 != joined {
				t.Fatalf("kind %d of %v: nothing became %v, %v", kind, g, without, ok)
			}
			with, ok := group.Apply([]api.Member{memberOf(g)}, g.daemon, e)
			if left := can && kind == leaves; ok != left || len(with) == 0 != left {
				t.Fatalf("kind %d of %v, who is there: %v, %v", kind, g, with, ok)
			}
		}
	}
}

// P18.1: each range's edges in a table, one field at a time.
func TestApplyEdges(t *testing.T) {
	table := rows[3]
	for n, can := range map[int]bool{-1: false, 0: true, 7: true, 8: false, leastInt: false, mostInt: false} {
		for _, g := range []guest{{n, 2, 3}, {2, n, 3}} {
			if got, ok := agreeApply(t, table, deed{joins, g}); ok != can || got.same(table) == can {
				t.Errorf("join of %v is %s, %v", g, got, ok)
			}
			if got, ok := agreeApply(t, table, deed{leaves, g}); ok || !got.same(table) {
				t.Errorf("leave of %v is %s, %v", g, got, ok)
			}
		}
	}
	for s, can := range map[uint64]bool{0: true, 65535: true, 65536: false, most: false} {
		if got, ok := agreeApply(t, table, deed{joins, guest{2, 2, s}}); ok != can || got.same(table) == can {
			t.Errorf("join of session %d is %s, %v", s, got, ok)
		}
	}
}

// P18.1: the Service, Number and Text of an entry are not asked.
func TestApplyRest(t *testing.T) {
	table := tableOf(rows[1])
	for _, service := range []int{leastInt, -1, 0, 1, 2, 3, 4, mostInt} {
		for _, number := range oddSessions {
			for _, text := range []string{"", "x", "seventeen bytes..", "\x00\xff"} {
				e := api.Entry{Kind: api.EntJoin, Service: service, Group: 3, Session: 8, Number: number, Text: text}
				name := fmt.Sprintf("service %d, number %d, text %q", service, number, text)
				got, ok := group.Apply(table, 4, e)
				if want, _ := rows[1].after(deed{joins, guest{3, 4, 8}}); !ok || !partyOf(got).same(want) {
					t.Fatalf("join, %s: %v, %v", name, got, ok)
				}
				e.Kind = api.EntLeave
				if left, ok := group.Apply(got, 4, e); !ok || !partyOf(left).same(rows[1]) {
					t.Fatalf("leave, %s: %v, %v", name, left, ok)
				}
			}
		}
	}
}

// P18.1: in tables in no order, one comes ahead of the first one that is not
// ahead of it, were others behind that; one who stands anywhere is there.
func TestApplyNoOrder(t *testing.T) {
	p := party{{1, 1, 1}, {5, 5, 5}, {2, 2, 2}, {9, 9, 9}, {4, 4, 4}}
	for _, x := range []struct {
		guest
		at int
	}{{guest{0, 0, 0}, 0}, {guest{1, 1, 2}, 1}, {guest{4, 4, 5}, 1}, {guest{6, 0, 0}, 3}, {guest{7, 7, 7}, 3}} {
		got, ok := agreeApply(t, p, deed{joins, x.guest})
		if want := slices.Insert(slices.Clone(p), x.at, x.guest); !ok || !got.same(want) {
			t.Errorf("join of %v is %s, %v, not %s", x.guest, got, ok, want)
		}
	}
	for at, g := range p {
		if got, ok := agreeApply(t, p, deed{joins, g}); ok || !got.same(p) {
			t.Errorf("join of %v is %s, %v", g, got, ok)
		}
		got, ok := agreeApply(t, p, deed{leaves, g})
		if g.group == 9 {
			if ok || !got.same(p) {
				t.Errorf("leave of %v is %s, %v", g, got, ok)
			}
		} else if want := slices.Delete(slices.Clone(p), at, at+1); !ok || !got.same(want) {
			t.Errorf("leave of %v is %s, %v", g, got, ok)
		}
	}
}

// P18.1: a leave of one who stands more than once leaves a table without it.
func TestLeaveTwice(t *testing.T) {
	g, other := guest{2, 3, 4}, guest{5, 1, 1}
	for _, p := range []party{{g, g}, {g, g, g, g}, {g, other, g}, {other, g, g}, {g, g, other}, {other, g, other, g, other, other}} {
		want := slices.DeleteFunc(slices.Clone(p), func(x guest) bool { return x == g })
		if got, ok := agreeApply(t, p, deed{leaves, g}); !ok || !got.same(want) {
			t.Errorf("leave of %v out of %s is %s, %v", g, p, got, ok)
		}
		if got, ok := agreeApply(t, p, deed{joins, g}); ok || !got.same(p) {
			t.Errorf("join of %v into %s is %s, %v", g, p, got, ok)
		}
	}
}

// P18.1, R3, R4: what is done to one answer is seen in no other one.
func TestTwoAnswers(t *testing.T) {
	for _, row := range rows {
		given := tableOf(row)
		for _, d := range []deed{{joins, guest{2, 2, 2}}, {leaves, row[0]}, {joins, row[0]}, {sends, row[0]}} {
			one, _ := group.Apply(given, d.daemon, d.entry())
			other, _ := group.Apply(given, d.daemon, d.entry())
			want := partyOf(other)
			for i := range one[:cap(one)] {
				one[:cap(one)][i] = api.Member{Group: 77}
			}
			if !partyOf(other).same(want) {
				t.Fatalf("%+v: another answer became %s", d, partyOf(other))
			}
			untouched(t, "Apply", given, row)
		}
	}
}
