package queue_test

import (
	"fmt"
	"math"
	"math/rand"
	"reflect"
	"slices"
	"strings"
	"testing"
	"time"

	"congress/api"
	"congress/queue"
)

const (
	leastInt  = math.MinInt
	mostInt   = math.MaxInt
	mostRound = math.MaxUint32
	most      = math.MaxUint64
)

// The kinds of entries and the services, as chapters 3 and 9 say them.
const (
	nothing = iota
	sends
	joins
	leaves
)

const (
	fifo = iota
	causal
	agreed
	safe
)

// oddInts are daemons, slots, kinds, services and groups at the edges of their
// type and of what may be, and some that are the same as those in some of their
// bits.
var oddInts = []int{0, 1, 2, 3, 4, 7, 8, -1, -2, -8, 9, 16, 255, 256, 257, 1 << 16, 1<<31 - 1, 1 << 31, -1 << 31, 1 << 32, 1<<32 + 1, 1<<32 + 2, -1 << 32, leastInt, leastInt + 1, leastInt + 2, mostInt - 1, mostInt}

// oddRounds are rounds and counts of that kind.
var oddRounds = []uint32{0, 1, 2, 3, 255, 256, 257, 1<<16 - 1, 1 << 16, 1<<16 + 1, 1<<31 - 1, 1 << 31, 1<<31 + 1, mostRound - 2, mostRound - 1, mostRound}

// slip is an entry, told without the program's packages.
type slip struct {
	kind, service, group int
	session, number      uint64
	text                 string
}

// spot is where an entry stands.
type spot struct {
	round      uint32
	from, slot int
}

// item is an entry that waits.
type item struct {
	spot
	slip
}

// line is those that wait.
type line []item

// String tells the beginning of a line, of a test that failed.
func (l line) String() string {
	return fmt.Sprintf("[%d: %+v]", len(l), []item(l[:min(len(l), 12)]))
}

func (l line) same(other line) bool { return slices.Equal(l, other) }

// rank puts spots in order: below 0, if s is ahead of the other one.
func (s spot) rank(other spot) int {
	switch {
	case s == other:
		return 0
	case s.round != other.round:
		return int(int64(s.round) - int64(other.round))
	case s.from < other.from, s.from == other.from && s.slot < other.slot:
		return -1
	}
	return 1
}

// wanted is the service by which a slip is delivered.
func (s slip) wanted() int {
	return map[bool]int{true: s.service, false: agreed}[s.kind == sends]
}

// ordered tells whether a slip is.
func (s slip) ordered() bool {
	return s.kind != sends || s.service == agreed || s.service == safe
}

// state is what a daemon has received, and from whom it does.
type state struct {
	counts  [8]uint32
	members [8]uint32
}

// have tells whether r frames at least were received of each member below a
// daemon.
func (s state) have(r uint64, below int) bool {
	for d := range s.members[:below] {
		if s.members[d] > 0 && uint64(s.counts[d]) < r {
			return false
		}
	}
	return true
}

// ready is the account of what chapter 9 says of an item.
func (s state) ready(x item) bool {
	if x.from != x.from&7 || s.members[x.from] == 0 || x.round == 0 || s.counts[x.from] < x.round {
		return false
	}
	r := uint64(x.round)
	switch x.wanted() {
	case fifo:
		return true
	case causal:
		return s.have(r-1, 8)
	case agreed:
		return s.have(r-1, 8) && s.have(r, x.from)
	case safe:
		return s.have(r+1, 8)
	}
	return false
}

// with is the account of Add.
func (l line) with(from int, r uint32, slips []slip) line {
	then := slices.Clone(l)
	for slot, s := range slips {
		x := item{spot{r, from, slot}, s}
		at, twice := len(then), s == slip{}
		for i := len(then) - 1; i >= 0; i-- {
			switch order := x.rank(then[i].spot); {
			case order < 0:
				at = i
			case order == 0:
				twice = true
			}
		}
		if !twice {
			then = slices.Insert(then, at, x)
		}
	}
	return then
}

// part is the account of Ready: those that come, and those that wait.
func (l line) part(s state) (line, line) {
	end := len(l)
	for i := len(l) - 1; i >= 0; i-- {
		if l[i].ordered() && !s.ready(l[i]) {
			end = i
		}
	}
	var come, wait line
	for i, x := range l {
		if s.ready(x) && (i < end || !x.ordered()) {
			come = append(come, x)
		} else {
			wait = append(wait, x)
		}
	}
	return come, wait
}

// may is the account of May.
func (l line) may() bool {
	sorted := slices.Clone(l)
	slices.SortStableFunc(sorted, func(a, b item) int { return a.rank(b.spot) })
	sorted = slices.CompactFunc(sorted, func(a, b item) bool { return a.spot == b.spot })
	return l.same(sorted) && !slices.ContainsFunc(l, func(x item) bool { return x.slip == slip{} })
}

// entry is the program's form of a slip.
func (s slip) entry() api.Entry {
	return api.Entry{Kind: s.kind, Service: s.service, Group: s.group, Session: s.session, Number: s.number, Text: s.text}
}

// slipOf is the account's form of an entry.
func slipOf(e api.Entry) slip {
	return slip{e.Kind, e.Service, e.Group, e.Session, e.Number, e.Text}
}

// roomWaits and roomSlips are what stands behind lists that are given.
var (
	roomWaits = line{{spot{0, 0, 0}, slip{}}, {spot{mostRound, 7, 1}, slip{sends, safe, 7, 1, 1, "room"}}, {spot{1, 1, 1}, slip{}}}
	roomSlips = []slip{{}, {sends, agreed, 1, 2, 3, "room"}, {joins, agreed, 1, 2, 0, ""}, {}}
)

// waitsOf is the program's form of a line, in a list with room behind it in which
// something stands, so that writing there is seen.
func waitsOf(l line) []api.Wait {
	var list []api.Wait
	for _, x := range slices.Concat(l, roomWaits) {
		list = append(list, api.Wait{Place: api.Place{Round: x.round, From: x.from, Slot: x.slot}, Entry: x.entry()})
	}
	return slices.Clip(list)[:len(l)]
}

// lineOf is the account's form of those that wait.
func lineOf(list []api.Wait) line {
	var l line
	for _, w := range list {
		l = append(l, item{spot{w.Round, w.From, w.Slot}, slipOf(w.Entry)})
	}
	return l
}

// entriesOf is the program's form of slips, with room behind it too.
func entriesOf(slips []slip) []api.Entry {
	var list []api.Entry
	for _, s := range slices.Concat(slips, roomSlips) {
		list = append(list, s.entry())
	}
	return slices.Clip(list)[:len(slips)]
}

// slipsOf is the account's form of entries.
func slipsOf(list []api.Entry) []slip {
	var slips []slip
	for _, e := range list {
		slips = append(slips, slipOf(e))
	}
	return slips
}

// untouched asks that a list made by waitsOf is what it was, with the room behind
// it.
func untouched(t *testing.T, call string, list []api.Wait, l line) {
	t.Helper()
	want := slices.Concat(l, roomWaits)
	all := lineOf(list[:len(want)])
	if len(list) != len(l) || !all.same(want) {
		t.Fatalf("%s: what was given became %s, not %s", call, all, want)
	}
}

// memory is where a list with the room behind it begins and ends. It holds the
// list, so that no later one gets its place.
type memory struct {
	from, to uintptr
	list     any
}

func memoryOf[E any](l []E) memory {
	v := reflect.ValueOf(l)
	return memory{v.Pointer(), v.Pointer() + uintptr(v.Cap())*v.Type().Elem().Size(), l}
}

// overlap tells whether two of some lists share memory.
func overlap(lists ...memory) bool {
	for i, a := range lists {
		for _, b := range lists[:i] {
			if a.from < b.to && b.from < a.to {
				return true
			}
		}
	}
	return false
}

// agreeAdd asks that Add says, each time, what the account says, leaves alone
// what it was given, and answers memory of its own.
func agreeAdd(t *testing.T, l line, from int, r uint32, slips []slip) line {
	t.Helper()
	name := fmt.Sprintf("Add of %+v, of %d, round %d, to %s", slips[:min(len(slips), 8)], from, r, l)
	want := l.with(from, r, slips)
	given, entries := waitsOf(l), entriesOf(slips)
	lists := []memory{memoryOf(given)}
	for range 2 {
		got := queue.Add(given, from, r, entries)
		if !lineOf(got).same(want) {
			t.Fatalf("%s is %s, not %s", name, lineOf(got), want)
		}
		lists = append(lists, memoryOf(got))
	}
	untouched(t, name, given, l)
	if all := slipsOf(entries[:cap(entries)]); len(entries) != len(slips) || !slices.Equal(all, slices.Concat(slips, roomSlips)) {
		t.Fatalf("%s: the entries became %+v", name, all)
	}
	if overlap(lists...) {
		t.Fatalf("%s shares memory", name)
	}
	return want
}

// agreeReady asks the same of Ready.
func agreeReady(t *testing.T, l line, s state) (line, line) {
	t.Helper()
	name := fmt.Sprintf("Ready of %s with %v", l, s)
	come, wait := l.part(s)
	given := waitsOf(l)
	lists := []memory{memoryOf(given)}
	for range 2 {
		a, b := queue.Ready(given, s.counts, s.members)
		if !lineOf(a).same(come) || !lineOf(b).same(wait) {
			t.Fatalf("%s is %s, %s, not %s, %s", name, lineOf(a), lineOf(b), come, wait)
		}
		lists = append(lists, memoryOf(a), memoryOf(b))
	}
	untouched(t, name, given, l)
	if overlap(lists...) {
		t.Fatalf("%s shares memory", name)
	}
	return come, wait
}

// agreeFlush asks the same of Flush.
func agreeFlush(t *testing.T, l line) line {
	t.Helper()
	name := fmt.Sprintf("Flush of %s", l)
	given := waitsOf(l)
	lists := []memory{memoryOf(given)}
	for range 2 {
		got := queue.Flush(given)
		if !lineOf(got).same(l) {
			t.Fatalf("%s is %s", name, lineOf(got))
		}
		lists = append(lists, memoryOf(got))
	}
	untouched(t, name, given, l)
	if overlap(lists...) {
		t.Fatalf("%s shares memory", name)
	}
	return l
}

// agreeMay asks that May says, each time, what the account says, and leaves alone
// what it was given.
func agreeMay(t *testing.T, l line) bool {
	t.Helper()
	given := waitsOf(l)
	got, again := queue.May(given), queue.May(given)
	untouched(t, "May", given, l)
	if want := l.may(); got != want || again != want {
		t.Fatalf("May of %s is %v, another time %v, not %v", l, got, again, want)
	}
	return got
}

// send is a send's slip; its number is a mark by which it is known.
func send(service int, mark uint64) slip {
	return slip{sends, service, int(mark % 8), mark % 5, mark, strings.Repeat("\xff\x00x", int(mark%6))}
}

// at is an item at a spot.
func at(r uint32, from, slot int, s slip) item {
	return item{spot{r, from, slot}, s}
}

// marks are the numbers of a line's slips.
func (l line) marks() []uint64 {
	var m []uint64
	for _, x := range l {
		m = append(m, x.number)
	}
	return m
}

// pick is one of some.
func pick[E any](r *rand.Rand, some []E) E {
	return some[r.Intn(len(some))]
}

// drawnSlip is a send for the most part, or a join or leave, or nothing, or what
// may not be.
func drawnSlip(r *rand.Rand) slip {
	s := send(r.Intn(4), uint64(r.Intn(1000)))
	switch r.Intn(12) {
	case 0, 1:
		return slip{kind: joins + r.Intn(2), service: agreed, group: r.Intn(8), session: uint64(r.Intn(4))}
	case 2:
		return slip{}
	case 3:
		s.kind = pick(r, oddInts)
	case 4:
		s.service = pick(r, oddInts)
	case 5:
		s.group = pick(r, oddInts)
	case 6:
		s.session, s.number = r.Uint64()<<r.Intn(64), r.Uint64()>>r.Intn(64)
	}
	return s
}

// drawnSlips are as many.
func drawnSlips(r *rand.Rand, n int) []slip {
	var l []slip
	for range n {
		l = append(l, drawnSlip(r))
	}
	return l
}

// drawnSpot is one of few spots, seldom one at an edge, or any.
func drawnSpot(r *rand.Rand) spot {
	s := spot{uint32(r.Intn(5)), r.Intn(4), r.Intn(2)}
	switch r.Intn(16) {
	case 0:
		s.round = pick(r, oddRounds)
	case 1:
		s.from = pick(r, oddInts)
	case 2:
		s.slot = pick(r, oddInts)
	case 3:
		s = spot{r.Uint32(), int(r.Uint64()), int(r.Uint64())}
	}
	return s
}

// drawnLine is up to as many, in any order, of which some have the same spot.
func drawnLine(r *rand.Rand, n int) line {
	var l line
	for range r.Intn(n + 1) {
		l = append(l, item{drawnSpot(r), drawnSlip(r)})
	}
	return l
}

// drawnQueue is up to as many, in order, no spot twice, of which few are the zero
// one.
func drawnQueue(r *rand.Rand, n int) line {
	l := drawnLine(r, n)
	slices.SortFunc(l, func(a, b item) int { return a.rank(b.spot) })
	return slices.CompactFunc(l, func(a, b item) bool { return a.spot == b.spot })
}

// drawnState is of few rounds, for the most part.
func drawnState(r *rand.Rand) state {
	var s state
	low := uint32(r.Intn(4))
	for d := range 8 {
		s.counts[d] = low + uint32(r.Intn(3))
		if r.Intn(3) > 0 || d < 4 && r.Intn(3) > 0 {
			s.members[d] = pick(r, []uint32{1, 1, 2, 1 << 16, 1 << 31, mostRound})
		}
	}
	if r.Intn(12) == 0 {
		s.counts[r.Intn(8)] = pick(r, oddRounds)
	}
	return s
}

// ends asks that a call ends, without a panic.
func ends(t *testing.T, name string, call func()) {
	t.Helper()
	done := make(chan any)
	go func() {
		defer func() { done <- recover() }()
		call()
	}()
	select {
	case what := <-done:
		if what != nil {
			t.Fatalf("%s: a panic: %v", name, what)
		}
	case <-time.After(time.Minute):
		t.Fatalf("%s does not end", name)
	}
}
