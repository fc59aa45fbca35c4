package group_test

import (
	"math/rand"
	"slices"
	"strings"
	"testing"

	"congress/api"
	"congress/group"
)

// chronicle is all entries that came, from nothing on, told without the
// program's packages. It has no table: who is there is told of what came alone.
type chronicle []deed

// has tells whether one is there: the last that came of its joins and leaves is
// a join.
func (c chronicle) has(g guest) bool {
	for _, d := range slices.Backward(c) {
		if d.guest == g && (d.kind == joins || d.kind == leaves) {
			return d.kind == joins && g.possible()
		}
	}
	return false
}

// would tells whether an entry changes something.
func (c chronicle) would(d deed) bool {
	return d.possible() && (d.kind == joins && !c.has(d.guest) || d.kind == leaves && c.has(d.guest))
}

// party is who is there, in order.
func (c chronicle) party() party {
	known := map[string]guest{}
	for _, d := range c {
		known[d.rank()] = d.guest
	}
	var ranks []string
	for rank, g := range known {
		if c.has(g) {
			ranks = append(ranks, rank)
		}
	}
	slices.Sort(ranks)
	var p party
	for _, rank := range ranks {
		p = append(p, known[rank])
	}
	return p
}

// book is a table, beside the chronicle of what came.
type book struct {
	t       *testing.T
	table   []api.Member
	done    chronicle
	changes int
}

// do applies an entry, and asks that it changed something, and that the table
// and its views are, as the chronicle says.
func (b *book) do(d deed) {
	b.t.Helper()
	want := b.done.would(d)
	before := partyOf(b.table)
	table, ok := group.Apply(b.table, d.daemon, d.entry())
	b.done = append(b.done, d)
	if ok != want {
		b.t.Fatalf("%+v of %s is %v", d, before, ok)
	}
	if !partyOf(b.table).same(before) {
		b.t.Fatalf("%+v: %s became %s", d, before, partyOf(b.table))
	}
	there := b.done.party()
	if !partyOf(table).same(there) || !group.May(table) {
		b.t.Fatalf("%+v of %s is %s, not %s", d, before, partyOf(table), there)
	}
	for n := -1; n <= 8; n++ {
		view := partyOf(group.View(table, n))
		if !view.same(there.of(n)) {
			b.t.Fatalf("behind %+v the view of %d is %s, not %s", d, n, view, there.of(n))
		}
		if n != d.group && !view.same(partyOf(group.View(b.table, n))) {
			b.t.Fatalf("%+v changes the view of %d", d, n)
		}
	}
	b.table = table
	if ok {
		b.changes++
	}
}

// drawnDeed is an entry: mostly a join or leave, mostly of one of few.
func drawnDeed(r *rand.Rand) deed {
	kind := []int{joins, joins, joins, leaves, leaves, leaves, leaves, sends, nothing, 4}[r.Intn(10)]
	return deed{kind, drawnGuest(r)}
}

// drawnDeeds are as many entries.
func drawnDeeds(r *rand.Rand, n int) chronicle {
	var c chronicle
	for range n {
		c = append(c, drawnDeed(r))
	}
	return c
}

// behind is the table behind some entries, in their order.
func behind(table []api.Member, c chronicle) []api.Member {
	for _, d := range c {
		table, _ = group.Apply(table, d.daemon, d.entry())
	}
	return table
}

// P18.3: drawn entries from nothing on: behind each of them the table is who is
// there, and may be, and no other group's view is changed.
func TestDrawnChronicles(t *testing.T) {
	changes := 0
	for seed := range int64(60) {
		r := rand.New(rand.NewSource(1830 + seed))
		b := &book{t: t}
		for range 80 {
			b.do(drawnDeed(r))
		}
		changes += b.changes
	}
	if changes < 500 || changes > 60*80-500 {
		t.Errorf("%d of %d entries changed something", changes, 60*80)
	}
}

// P18.3: all tables of eight guests, and each one's join and leave: behind it
// there are the same ones and this one, or the same without it.
func TestAllSmallTables(t *testing.T) {
	all := every([]int{0, 5}, []int{2, 7}, []uint64{3, 65535})
	pick := func(set int) party {
		var p party
		for i, g := range all {
			if set>>i&1 == 1 {
				p = append(p, g)
			}
		}
		return p
	}
	for set := range 256 {
		for i, g := range all {
			got, ok := agreeApply(t, pick(set), deed{joins, g})
			if want := set>>i&1 == 0; ok != want || !got.same(pick(set|1<<i)) {
				t.Fatalf("join of %v into %s is %s, %v", g, pick(set), got, ok)
			}
			got, ok = agreeApply(t, pick(set), deed{leaves, g})
			if want := set>>i&1 == 1; ok != want || !got.same(pick(set&^(1<<i))) {
				t.Fatalf("leave of %v out of %s is %s, %v", g, pick(set), got, ok)
			}
		}
		if !agreeMay(t, pick(set)) {
			t.Fatalf("%s may not be", pick(set))
		}
	}
}

// P18.3: two tables behind the same entries in the same order are the same.
func TestSameEntries(t *testing.T) {
	r := rand.New(rand.NewSource(1831))
	for range 200 {
		c := drawnDeeds(r, r.Intn(60))
		one, other := behind(nil, c), behind([]api.Member{}, c)
		want := c.party()
		if !partyOf(one).same(want) || !partyOf(other).same(want) {
			t.Fatalf("behind %v: %v and %v, not %s", c, one, other, want)
		}
	}
}

// P18.3: two entries of unlike members may come in either order: each changes
// something, or does not, as in the other order, and the tables are the same.
func TestEitherOrder(t *testing.T) {
	r := rand.New(rand.NewSource(1832))
	both := 0
	for range 20000 {
		p := drawnTable(r, 12)
		a, b := drawnDeed(r), drawnDeed(r)
		if len(p) > 0 && r.Intn(2) == 0 {
			a.guest = p[r.Intn(len(p))]
		}
		if r.Intn(2) == 0 {
			b.guest = near(guest{a.group & 7, a.daemon & 7, a.session & 65535})[r.Intn(30)]
		}
		if a.guest == b.guest {
			continue
		}
		table := tableOf(p)
		first, okA := group.Apply(table, a.daemon, a.entry())
		one, okB := group.Apply(first, b.daemon, b.entry())
		second, isB := group.Apply(table, b.daemon, b.entry())
		other, isA := group.Apply(second, a.daemon, a.entry())
		if okA != isA || okB != isB || !slices.Equal(one, other) {
			t.Fatalf("%+v and %+v of %s: %v %v %v, or %v %v %v", a, b, p, one, okA, okB, other, isA, isB)
		}
		if okA && okB {
			both++
		}
	}
	if both < 1000 {
		t.Errorf("both changed something %d times", both)
	}
}

// shuffled is the same entries in an order that is drawn; those of one member
// keep theirs.
func (c chronicle) shuffled(r *rand.Rand) chronicle {
	own := map[guest]chronicle{}
	var turns []guest
	for _, d := range c {
		own[d.guest] = append(own[d.guest], d)
		turns = append(turns, d.guest)
	}
	r.Shuffle(len(turns), func(i, j int) { turns[i], turns[j] = turns[j], turns[i] })
	var mixed chronicle
	for _, g := range turns {
		mixed = append(mixed, own[g][0])
		own[g] = own[g][1:]
	}
	return mixed
}

// P18.3: many entries, in whatever order those of unlike members come, give one
// table.
func TestShuffled(t *testing.T) {
	r := rand.New(rand.NewSource(1833))
	for range 150 {
		c := drawnDeeds(r, 5+r.Intn(60))
		want := c.party()
		for range 5 {
			mixed := c.shuffled(r)
			if got := partyOf(behind(nil, mixed)); !got.same(want) {
				t.Fatalf("behind %v: %s, behind %v: %s", c, want, mixed, got)
			}
		}
	}
}

// P18.3: what is done to a group changes no other one's view, nor what a view
// would be without it.
func TestOtherViews(t *testing.T) {
	r := rand.New(rand.NewSource(1834))
	for range 100 {
		c := drawnDeeds(r, 60)
		whole := behind(nil, c)
		for n := range 8 {
			var own chronicle
			for _, d := range c {
				if d.group == n {
					own = append(own, d)
				}
			}
			if got, want := group.View(whole, n), behind(nil, own); !slices.Equal(got, want) {
				t.Fatalf("group %d behind %v is %v, and alone %v", n, c, got, want)
			}
		}
	}
}

// P18.3: from any table that may be, what each call answers is one: so are the
// views, together they are the table, and so is what is kept.
func TestStays(t *testing.T) {
	r := rand.New(rand.NewSource(1835))
	for range 4000 {
		p := drawnTable(r, 20)
		if !agreeMay(t, p) {
			t.Fatalf("%s was drawn, and may not be", p)
		}
		for range 6 {
			d := drawnDeed(r)
			if len(p) > 0 && r.Intn(3) == 0 {
				d.guest = p[r.Intn(len(p))]
			}
			if p, _ = agreeApply(t, p, d); !agreeMay(t, p) {
				t.Fatalf("%+v made %s, which may not be", d, p)
			}
		}
		var views party
		for n := range 8 {
			view := agreeView(t, p, n)
			if !agreeMay(t, view) {
				t.Fatalf("the view of %d in %s may not be", n, p)
			}
			views = append(views, view...)
		}
		if !views.same(p) {
			t.Fatalf("the views of %s are %s", p, views)
		}
		if kept := agreeKeep(t, p, drawnMembers(r)); !agreeMay(t, kept) {
			t.Fatalf("%s is kept of %s, and may not be", kept, p)
		}
	}
}

// P18.3: behind a join a leave brings the table back that was, and a leave's
// join too.
func TestThereAndBack(t *testing.T) {
	r := rand.New(rand.NewSource(1836))
	for range 3000 {
		p := drawnTable(r, 20)
		g := guest{r.Intn(8), r.Intn(8), uint64(r.Intn(65536))}
		if len(p) > 0 && r.Intn(2) == 0 {
			g = p[r.Intn(len(p))]
		}
		there, back := deed{joins, g}, deed{leaves, g}
		if strings.Contains(p.ranks(), g.rank()) {
			there, back = back, there
		}
		changed, ok := agreeApply(t, p, there)
		again, is := agreeApply(t, changed, back)
		if !ok || !is || changed.same(p) || !again.same(p) {
			t.Fatalf("%+v of %s is %s, and back %s", there, p, changed, again)
		}
	}
}

// ranks is all guests' ranks in one text.
func (p party) ranks() string {
	var b strings.Builder
	for _, g := range p {
		b.WriteString(g.rank() + "\n")
	}
	return b.String()
}
