package group_test

import (
	"fmt"
	"math"
	"math/rand"
	"reflect"
	"slices"
	"strings"
	"testing"
	"time"

	"congress/api"
	"congress/group"
)

const (
	leastInt = math.MinInt
	mostInt  = math.MaxInt
	most     = math.MaxUint64
)

// oddInts are groups and daemons at the edges of their type and of what may be,
// and some that are the same as those in some of their bits.
var oddInts = []int{-1, 0, 1, 6, 7, 8, 9, -7, -8, 15, 16, 255, 256, 263, 1<<16 + 7, 1 << 31, 1<<32 - 1, 1 << 32, 1<<32 + 3, -1 << 31, -1 << 32, leastInt, leastInt + 1, leastInt + 7, mostInt - 1, mostInt}

// oddSessions are sessions of that kind.
var oddSessions = []uint64{0, 1, 2, 7, 255, 256, 32767, 32768, 65534, 65535, 65536, 65537, 1 << 17, 1<<31 - 1, 1 << 31, 1<<32 - 1, 1 << 32, 1<<32 + 1, 1<<32 + 65535, 1<<63 - 1, 1 << 63, 1<<63 + 1, most - 65535, most - 1, most}

// guest is a session in a group, told without the program's packages.
type guest struct {
	group, daemon int
	session       uint64
}

// rank is a text by whose bytes guests stand in order.
func (g guest) rank() string {
	return fmt.Sprintf("%020d %020d %020d", uint64(g.group)+1<<63, uint64(g.daemon)+1<<63, g.session)
}

// possible tells whether a table may hold a guest.
func (g guest) possible() bool {
	digit := func(n int) bool { return n == n&7 }
	return digit(g.group) && digit(g.daemon) && g.session>>16 == 0
}

// party is a table, told without the program's packages.
type party []guest

// String tells the beginning of a party, of a test that failed.
func (p party) String() string {
	return fmt.Sprintf("[%d: %v]", len(p), []guest(p[:min(len(p), 12)]))
}

func (p party) same(other party) bool { return slices.Equal(p, other) }

// The kinds of entries, as chapter 3 says them.
const (
	nothing = iota
	sends
	joins
	leaves
)

// deed is a daemon's entry, without what a table does not hang on.
type deed struct {
	kind int
	guest
}

// entry is the program's form of a deed; what a table does not hang on differs
// from deed to deed.
func (d deed) entry() api.Entry {
	return api.Entry{
		Kind:    d.kind,
		Service: int(d.session%7) - 1,
		Group:   d.group,
		Session: d.session,
		Number:  d.session ^ uint64(d.group)<<40,
		Text:    strings.Repeat("x", d.daemon&31),
	}
}

// after is the account of Apply.
func (p party) after(d deed) (party, bool) {
	stands := 0
	for _, g := range p {
		if g == d.guest {
			stands++
		}
	}
	switch {
	case !d.possible(), d.kind != joins && d.kind != leaves, (d.kind == joins) == (stands > 0):
		return p, false
	case d.kind == leaves:
		return p.where(func(g guest) bool { return g != d.guest }), true
	}
	var then party
	came := false
	for _, g := range p {
		if !came && g.rank() >= d.rank() {
			then, came = append(then, d.guest), true
		}
		then = append(then, g)
	}
	if !came {
		then = append(then, d.guest)
	}
	return then, true
}

// where is those of whom something holds.
func (p party) where(holds func(guest) bool) party {
	var l party
	for _, g := range p {
		if holds(g) {
			l = append(l, g)
		}
	}
	return l
}

// of is the account of View.
func (p party) of(group int) party {
	return p.where(func(g guest) bool { return g.group == group })
}

// among is the account of Keep.
func (p party) among(m api.Members) party {
	in := map[int]bool{0: m[0] > 0, 1: m[1] > 0, 2: m[2] > 0, 3: m[3] > 0, 4: m[4] > 0, 5: m[5] > 0, 6: m[6] > 0, 7: m[7] > 0}
	return p.where(func(g guest) bool { return in[g.daemon] })
}

// may is the account of May.
func (p party) may() bool {
	var ranks []string
	for _, g := range p {
		if !g.possible() {
			return false
		}
		ranks = append(ranks, g.rank())
	}
	sorted := slices.Sorted(slices.Values(ranks))
	return slices.Equal(ranks, slices.Compact(sorted))
}

// room is what stands behind a list that is given.
var room = party{{0, 0, 0}, {7, 7, 65535}, {3, 1, 4}}

// memberOf is the program's form of a guest.
func memberOf(g guest) api.Member {
	return api.Member{Group: g.group, Daemon: g.daemon, Session: g.session}
}

// tableOf is the program's form of a party, in a list with room behind it in
// which something stands, so that writing there is seen.
func tableOf(p party) []api.Member {
	var list []api.Member
	for _, g := range slices.Concat(p, room) {
		list = append(list, memberOf(g))
	}
	return slices.Clip(list)[:len(p)]
}

// partyOf is the account's form of a table.
func partyOf(t []api.Member) party {
	var p party
	for _, x := range t {
		p = append(p, guest{x.Group, x.Daemon, x.Session})
	}
	return p
}

// untouched asks that a table made by tableOf is what it was, with the room
// behind it.
func untouched(t *testing.T, call string, table []api.Member, p party) {
	t.Helper()
	want := slices.Concat(p, room)
	all := partyOf(table[:len(want)])
	if len(table) != len(p) || !all.same(want) {
		t.Fatalf("%s: what was given became %s, not %s", call, all, want)
	}
}

// overlap tells whether two lists, with the room behind them, share memory.
func overlap(a, b []api.Member) bool {
	one, other := reflect.ValueOf(a), reflect.ValueOf(b)
	size := one.Type().Elem().Size()
	return one.Pointer() < other.Pointer()+uintptr(cap(b))*size && other.Pointer() < one.Pointer()+uintptr(cap(a))*size
}

// agree asks that a call says, each time, what the account says, leaves alone
// what it was given, and answers memory of its own.
func agree(t *testing.T, name string, p, want party, is bool, call func([]api.Member) ([]api.Member, bool)) party {
	t.Helper()
	name += " of " + p.String()
	given := tableOf(p)
	got, ok := call(given)
	untouched(t, name, given, p)
	if !partyOf(got).same(want) || ok != is {
		t.Fatalf("%s is %s, %v, not %s, %v", name, partyOf(got), ok, want, is)
	}
	again, ok := call(given)
	if !partyOf(again).same(want) || ok != is {
		t.Fatalf("%s is another time %s, %v, not %s, %v", name, partyOf(again), ok, want, is)
	}
	if overlap(got, given) || overlap(again, given) || overlap(got, again) {
		t.Fatalf("%s shares memory", name)
	}
	return partyOf(got)
}

// agreeApply asks that Apply says what the account says.
func agreeApply(t *testing.T, p party, d deed) (party, bool) {
	t.Helper()
	want, is := p.after(d)
	got := agree(t, fmt.Sprintf("Apply %+v", d), p, want, is, func(table []api.Member) ([]api.Member, bool) {
		return group.Apply(table, d.daemon, d.entry())
	})
	return got, is
}

// agreeView asks that View says what the account says.
func agreeView(t *testing.T, p party, which int) party {
	t.Helper()
	return agree(t, fmt.Sprintf("View %d", which), p, p.of(which), true, func(table []api.Member) ([]api.Member, bool) {
		return group.View(table, which), true
	})
}

// agreeKeep asks that Keep says what the account says.
func agreeKeep(t *testing.T, p party, m api.Members) party {
	t.Helper()
	return agree(t, fmt.Sprintf("Keep %v", m), p, p.among(m), true, func(table []api.Member) ([]api.Member, bool) {
		return group.Keep(table, m), true
	})
}

// agreeMay asks that May says what the account says.
func agreeMay(t *testing.T, p party) bool {
	t.Helper()
	given := tableOf(p)
	got := group.May(given)
	untouched(t, "May", given, p)
	if want := p.may(); got != want {
		t.Fatalf("May of %s is %v, not %v", p, got, want)
	}
	return got
}

// agreeAll asks that all calls say what the account says, with each of some
// guests.
func agreeAll(t *testing.T, p party, guests ...guest) {
	t.Helper()
	agreeMay(t, p)
	for _, g := range guests {
		for kind := nothing; kind <= leaves; kind++ {
			agreeApply(t, p, deed{kind, g})
		}
		agreeView(t, p, g.group)
	}
	for _, m := range someMembers {
		agreeKeep(t, p, m)
	}
}

// someMembers are none, all, some, and one of each kind of incarnation.
var someMembers = []api.Members{{}, {1, 1, 1, 1, 1, 1, 1, 1}, {1, 0, 2, 0, 3, 0, 4, 0}, {0, math.MaxUint32, 0, 1 << 31, 0, 256, 0, 65536}}

// every is a table with each session at each daemon in each group.
func every(groups, daemons []int, sessions []uint64) party {
	var p party
	for _, g := range groups {
		for _, d := range daemons {
			for _, s := range sessions {
				p = append(p, guest{g, d, s})
			}
		}
	}
	return p
}

// drawnGuest is one of few guests, seldom one at an edge, or any.
func drawnGuest(r *rand.Rand) guest {
	g := guest{r.Intn(3), r.Intn(3), uint64(r.Intn(3))}
	if r.Intn(3) == 0 {
		g = guest{r.Intn(8), r.Intn(8), uint64(r.Intn(65536))}
	}
	switch r.Intn(12) {
	case 0:
		g.group = oddInts[r.Intn(len(oddInts))]
	case 1:
		g.daemon = oddInts[r.Intn(len(oddInts))]
	case 2:
		g.session = oddSessions[r.Intn(len(oddSessions))]
	case 3:
		g = guest{int(r.Uint64()), int(r.Uint64()), r.Uint64()}
	}
	return g
}

// drawnParty is up to as many guests, of whom most may not stand so.
func drawnParty(r *rand.Rand, n int) party {
	var p party
	for range r.Intn(n + 1) {
		p = append(p, drawnGuest(r))
	}
	return p
}

// drawnTable is up to as many guests who may stand so.
func drawnTable(r *rand.Rand, n int) party {
	p := drawnParty(r, n).where(guest.possible)
	slices.SortFunc(p, func(a, b guest) int { return strings.Compare(a.rank(), b.rank()) })
	return slices.Compact(p)
}

// drawnMembers are some daemons, of drawn incarnations.
func drawnMembers(r *rand.Rand) api.Members {
	var m api.Members
	for i := range m {
		m[i] = []uint32{0, 0, 1, 2, 1 << 16, 1 << 31, math.MaxUint32, r.Uint32()}[r.Intn(8)]
	}
	return m
}

// ends asks that a call ends, without a panic.
func ends(t *testing.T, name string, call func()) {
	t.Helper()
	done := make(chan any)
	go func() {
		defer func() { done <- recover() }()
		call()
	}()
	select {
	case what := <-done:
		if what != nil {
			t.Fatalf("%s: a panic: %v", name, what)
		}
	case <-time.After(time.Minute):
		t.Fatalf("%s does not end", name)
	}
}
