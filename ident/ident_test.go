package ident_test

import (
	"fmt"
	"math"
	"math/rand"
	"slices"
	"testing"

	"congress/api"
	"congress/ident"
)

const most32 = math.MaxUint32

// rank holds two Ids against each other without the program's packages: their
// fields as bytes, the highest first, in one text.
func rank(a, b api.Id) int {
	x := fmt.Sprintf("%08x%08x%08x", a.Epoch, a.Coord, a.Inc)
	y := fmt.Sprintf("%08x%08x%08x", b.Epoch, b.Coord, b.Inc)
	switch {
	case x < y:
		return -1
	case x > y:
		return 1
	}
	return 0
}

// edgeIds are all Ids whose fields are at an edge.
func edgeIds() []api.Id {
	edges := []uint32{0, 1, 2, 1<<31 - 1, 1 << 31, most32 - 1, most32}
	var l []api.Id
	for _, epoch := range edges {
		for _, coord := range edges {
			for _, inc := range edges {
				l = append(l, api.Id{Epoch: epoch, Coord: coord, Inc: inc})
			}
		}
	}
	return l
}

// drawnIds are Ids whose fields are drawn, often the same ones.
func drawnIds(r *rand.Rand, many int) []api.Id {
	field := func() uint32 {
		switch r.Intn(4) {
		case 0:
			return r.Uint32()
		case 1:
			return most32 - uint32(r.Intn(2))
		}
		return uint32(r.Intn(3))
	}
	l := make([]api.Id, many)
	for i := range l {
		l[i] = api.Id{Epoch: field(), Coord: field(), Inc: field()}
	}
	return l
}

// drawnMembers are members of whom each daemon is one or is not.
func drawnMembers(r *rand.Rand) api.Members {
	incs := []uint32{0, 0, 1, 1, 2, most32, 1 << 31}
	var m api.Members
	for i := range m {
		m[i] = incs[r.Intn(len(incs))]
	}
	return m
}

// crowds are all 256 choices of daemons, each with incarnations of its own.
func crowds() []api.Members {
	incs := []uint32{1, most32, 2, 1 << 31, 1, 7, 256, most32 - 1}
	var l []api.Members
	for choice := range 1 << api.Daemons {
		var m api.Members
		for i := range m {
			if choice>>i&1 == 1 {
				m[i] = incs[i]
			}
		}
		l = append(l, m)
	}
	return l
}

// P7.1: the chapter's example.
func TestCompareExample(t *testing.T) {
	id := api.Id{Epoch: 2, Coord: 1, Inc: 1}
	if got := ident.Compare(id, api.Id{Epoch: 1, Coord: 7, Inc: 9}); got != 1 {
		t.Errorf("against epoch 1: %d, not 1", got)
	}
	if got := ident.Compare(id, api.Id{Epoch: 2, Coord: 1, Inc: 2}); got != -1 {
		t.Errorf("against Inc 2: %d, not -1", got)
	}
}

// P7.1: the epoch counts first, then Coord, then Inc, at every edge of each.
func TestCompareFields(t *testing.T) {
	for _, c := range []struct {
		name string
		a, b api.Id
	}{
		{"epoch alone", api.Id{Epoch: 4, Coord: 5, Inc: 6}, api.Id{Epoch: 5, Coord: 5, Inc: 6}},
		{"Coord alone", api.Id{Epoch: 4, Coord: 5, Inc: 6}, api.Id{Epoch: 4, Coord: 6, Inc: 6}},
		{"Inc alone", api.Id{Epoch: 4, Coord: 5, Inc: 6}, api.Id{Epoch: 4, Coord: 5, Inc: 7}},
		{"epoch against Coord", api.Id{Epoch: 4, Coord: 6, Inc: 6}, api.Id{Epoch: 5, Coord: 5, Inc: 6}},
		{"epoch against Inc", api.Id{Epoch: 4, Coord: 5, Inc: 9}, api.Id{Epoch: 5, Coord: 5, Inc: 6}},
		{"epoch against both", api.Id{Epoch: 0, Coord: most32, Inc: most32}, api.Id{Epoch: 1}},
		{"Coord against Inc", api.Id{Epoch: 4, Coord: 5, Inc: 9}, api.Id{Epoch: 4, Coord: 6, Inc: 6}},
		{"Coord 0 against the greatest Inc", api.Id{Inc: most32}, api.Id{Coord: 1}},
		{"the greatest epoch", api.Id{}, api.Id{Epoch: most32}},
		{"the greatest Coord", api.Id{}, api.Id{Coord: most32}},
		{"the greatest Inc", api.Id{}, api.Id{Inc: most32}},
		{"about the half", api.Id{Epoch: 1<<31 - 1}, api.Id{Epoch: 1 << 31}},
	} {
		if got := ident.Compare(c.a, c.b); got != -1 {
			t.Errorf("%s: %d, not -1", c.name, got)
		}
		if got := ident.Compare(c.b, c.a); got != 1 {
			t.Errorf("%s, the other way: %d, not 1", c.name, got)
		}
		if ident.Compare(c.a, c.a) != 0 || ident.Compare(c.b, c.b) != 0 {
			t.Errorf("%s: not the same as itself", c.name)
		}
	}
}

// P7.1: all pairs of Ids at the edges, and of drawn ones.
func TestComparePairs(t *testing.T) {
	for _, l := range [][]api.Id{edgeIds(), drawnIds(rand.New(rand.NewSource(71)), 300)} {
		for _, a := range l {
			for _, b := range l {
				if got, want := ident.Compare(a, b), rank(a, b); got != want {
					t.Fatalf("Compare(%v, %v) is %d, not %d", a, b, got, want)
				}
			}
		}
	}
}

// orders are all orders of a list.
func orders(l []api.Id) [][]api.Id {
	if len(l) == 0 {
		return [][]api.Id{nil}
	}
	var all [][]api.Id
	for i := range l {
		for _, rest := range orders(slices.Delete(slices.Clone(l), i, i+1)) {
			all = append(all, append([]api.Id{l[i]}, rest...))
		}
	}
	return all
}

// P7.1: Highest of none, of one, of the same ones, and of some in every order.
func TestHighest(t *testing.T) {
	if got := ident.Highest(); got != (api.Id{}) {
		t.Errorf("of none: %v", got)
	}
	if got := ident.Highest([]api.Id{}...); got != (api.Id{}) {
		t.Errorf("of an empty list: %v", got)
	}
	for _, id := range edgeIds() {
		if got := ident.Highest(id); got != id {
			t.Errorf("of %v alone: %v", id, got)
		}
		if got := ident.Highest(id, id, id); got != id {
			t.Errorf("of %v three times: %v", id, got)
		}
		if got := ident.Highest(api.Id{}, id); got != id {
			t.Errorf("of the zero one and %v: %v", id, got)
		}
	}
	rising := []api.Id{{}, {Inc: most32}, {Coord: 7, Inc: 9}, {Epoch: 1, Inc: 1}, {Epoch: 1, Coord: 1}, {Epoch: most32}}
	for many := 1; many <= len(rising); many++ {
		for _, l := range orders(rising[:many]) {
			if got := ident.Highest(l...); got != rising[many-1] {
				t.Fatalf("of %v: %v", l, got)
			}
		}
	}
}

// P7.1: Highest of drawn ones is one of them, and none is behind it.
func TestHighestDrawn(t *testing.T) {
	r := rand.New(rand.NewSource(72))
	for range 2000 {
		l := drawnIds(r, 1+r.Intn(12))
		was := slices.Clone(l)
		got := ident.Highest(l...)
		if !slices.Contains(l, got) {
			t.Fatalf("of %v: %v is none of them", l, got)
		}
		for _, id := range l {
			if rank(id, got) > 0 {
				t.Fatalf("of %v: %v is below %v", l, got, id)
			}
		}
		if !slices.Equal(l, was) {
			t.Fatalf("the list %v was changed into %v", was, l)
		}
	}
}

// P7.2: none, one, some and all eight, for every choice of daemons.
func TestCrowds(t *testing.T) {
	for choice, m := range crowds() {
		var want []int
		for i := range api.Daemons {
			if choice>>i&1 == 1 {
				want = append(want, i)
			}
		}
		if got := ident.List(m); !slices.Equal(got, want) {
			t.Errorf("List(%v) is %v, not %v", m, got, want)
		}
		if got := ident.Many(m); got != len(want) {
			t.Errorf("Many(%v) is %d, not %d", m, got, len(want))
		}
		least, ok := ident.Least(m)
		if len(want) == 0 && (least != 0 || ok) {
			t.Errorf("Least(%v) is %d, %v, and there is none", m, least, ok)
		}
		if len(want) > 0 && (least != want[0] || !ok) {
			t.Errorf("Least(%v) is %d, %v, not %d", m, least, ok, want[0])
		}
	}
}

// P7.2: daemons 0 and 7 alone, with the incarnations 1 and the greatest.
func TestOneMember(t *testing.T) {
	for _, daemon := range []int{0, 7} {
		for _, inc := range []uint32{1, most32} {
			var m api.Members
			m[daemon] = inc
			if least, ok := ident.Least(m); least != daemon || !ok {
				t.Errorf("Least(%v) is %d, %v", m, least, ok)
			}
			if ident.Many(m) != 1 || !slices.Equal(ident.List(m), []int{daemon}) {
				t.Errorf("%v: %d of them, %v", m, ident.Many(m), ident.List(m))
			}
			if !ident.Has(m, daemon, inc) || ident.Has(m, 7-daemon, inc) {
				t.Errorf("%v: Has tells another one", m)
			}
		}
	}
}

// P7.2: Has of every daemon and incarnation, right and wrong ones.
func TestHas(t *testing.T) {
	daemons := []int{math.MinInt, math.MinInt + 1, math.MinInt32, -9, -8, -7, -1, 0, 1, 2, 3, 4, 5, 6, 7,
		8, 9, 15, 16, 256, math.MaxInt32, 1 << 32, 1<<32 + 3, math.MaxInt - 1, math.MaxInt}
	incs := []uint32{0, 1, 2, 7, 256, 1<<31 - 1, 1 << 31, most32 - 1, most32}
	for _, m := range crowds() {
		for _, daemon := range daemons {
			for _, inc := range incs {
				want := inc > 0 && daemon >= 0 && daemon <= 7 && m[daemon] == inc
				if got := ident.Has(m, daemon, inc); got != want {
					t.Fatalf("Has(%v, %d, %d) is %v", m, daemon, inc, got)
				}
			}
		}
	}
}

// P7.2: Same of members some of whom have another incarnation.
func TestSame(t *testing.T) {
	all := api.Members{1, 2, 3, 4, 5, 6, 7, most32}
	for _, c := range []struct {
		name       string
		a, b, want api.Members
	}{
		{"of none", api.Members{}, api.Members{}, api.Members{}},
		{"of all and none", all, api.Members{}, api.Members{}},
		{"of all and all", all, all, all},
		{"of all and daemon 0", all, api.Members{1}, api.Members{1}},
		{"of all and daemon 7", all, api.Members{7: most32}, api.Members{7: most32}},
		{"of others", api.Members{1, 0, 3}, api.Members{0, 2, 0, 4}, api.Members{}},
		{"of another incarnation", api.Members{1, 2, 3}, api.Members{1, 3, 3}, api.Members{1, 0, 3}},
		{"of incarnations of which one has the other's bits", api.Members{3}, api.Members{1}, api.Members{}},
		{"of the greatest incarnation and the one below", api.Members{7: most32}, api.Members{7: most32 - 1}, api.Members{}},
		{"of incarnations that are daemons' of other numbers", api.Members{1, 2}, api.Members{2, 1}, api.Members{}},
	} {
		if got := ident.Same(c.a, c.b); got != c.want {
			t.Errorf("%s: %v, not %v", c.name, got, c.want)
		}
		if got := ident.Same(c.b, c.a); got != c.want {
			t.Errorf("%s, the other way: %v, not %v", c.name, got, c.want)
		}
	}
}

// P7.2: Same of drawn members, daemon by daemon.
func TestSameDrawn(t *testing.T) {
	r := rand.New(rand.NewSource(73))
	for range 5000 {
		a, b := drawnMembers(r), drawnMembers(r)
		same := ident.Same(a, b)
		for i := range api.Daemons {
			want := uint32(0)
			if a[i] == b[i] {
				want = a[i]
			}
			if same[i] != want {
				t.Fatalf("Same(%v, %v) is %v", a, b, same)
			}
		}
	}
}

// P7.2, R4: what List answers shares no memory with another answer, nor has it
// room behind it that another one takes.
func TestListIsItsOwn(t *testing.T) {
	m := api.Members{1, 0, 2, 0, 0, 0, 0, 3}
	first, second := ident.List(m), ident.List(m)
	for i := range first {
		first[i] = 99
	}
	_ = append(first, 98)
	if !slices.Equal(second, []int{0, 2, 7}) || !slices.Equal(ident.List(m), []int{0, 2, 7}) {
		t.Errorf("another answer was changed: %v, %v", second, ident.List(m))
	}
}

// P7.3: Compare is a total order, over all pairs and triples of drawn Ids.
func TestTotalOrder(t *testing.T) {
	r := rand.New(rand.NewSource(74))
	l := append(drawnIds(r, 50), api.Id{}, api.Id{Epoch: most32, Coord: most32, Inc: most32},
		api.Id{Epoch: 1, Coord: 7, Inc: 9}, api.Id{Epoch: 2, Coord: 1, Inc: 1}, api.Id{Epoch: 2, Coord: 1, Inc: 2})
	for _, a := range l {
		for _, b := range l {
			ab := ident.Compare(a, b)
			if ab < -1 || ab > 1 || ab != -ident.Compare(b, a) || (ab == 0) != (a == b) {
				t.Fatalf("Compare(%v, %v) is %d, and %d the other way", a, b, ab, ident.Compare(b, a))
			}
			for _, c := range l {
				if ab <= 0 && ident.Compare(b, c) <= 0 && ident.Compare(a, c) > 0 {
					t.Fatalf("%v, %v and %v have no order", a, b, c)
				}
			}
		}
	}
}

// P7.3: Same is one of both, whichever comes first; with itself it is itself.
func TestSameFollows(t *testing.T) {
	r := rand.New(rand.NewSource(75))
	l := []api.Members{{}, {1, 1, 1, 1, 1, 1, 1, 1}, {most32}, {7: most32}}
	for range 40 {
		l = append(l, drawnMembers(r))
	}
	for _, a := range l {
		if got := ident.Same(a, a); got != a {
			t.Fatalf("Same(%v, itself) is %v", a, got)
		}
		for _, b := range l {
			same := ident.Same(a, b)
			if other := ident.Same(b, a); same != other {
				t.Fatalf("Same(%v, %v) is %v, and %v the other way", a, b, same, other)
			}
			for _, daemon := range ident.List(same) {
				if !ident.Has(a, daemon, same[daemon]) || !ident.Has(b, daemon, same[daemon]) {
					t.Fatalf("Same(%v, %v) is %v: %d is none of both", a, b, same, daemon)
				}
			}
			for _, c := range l {
				if ident.Same(same, c) != ident.Same(a, ident.Same(b, c)) {
					t.Fatalf("Same of %v, %v and %v hangs on which two come first", a, b, c)
				}
			}
		}
	}
}

// P7.2, P7.3: Least, Many, List and Has tell the same members.
func TestMembersAgree(t *testing.T) {
	r := rand.New(rand.NewSource(76))
	for range 2000 {
		m := drawnMembers(r)
		l := ident.List(m)
		if len(l) != ident.Many(m) || !slices.IsSorted(l) {
			t.Fatalf("%v: %d of them, %v", m, ident.Many(m), l)
		}
		if least, ok := ident.Least(m); ok != (len(l) > 0) || ok && least != l[0] {
			t.Fatalf("%v: the least one is %d, %v, of %v", m, least, ok, l)
		}
		for i := range api.Daemons {
			if ident.Has(m, i, m[i]) != slices.Contains(l, i) {
				t.Fatalf("%v: Has and List differ on %d", m, i)
			}
		}
	}
}
