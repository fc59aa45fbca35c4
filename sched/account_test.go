package sched_test

import (
	"fmt"
	"maps"
	"math"
	"math/rand"
	"reflect"
	"slices"
	"strings"
	"testing"
	"time"

	"congress/api"
	"congress/sched"
)

const (
	leastInt = math.MinInt
	mostInt  = math.MaxInt
	most     = math.MaxUint64
)

// oddSessions are sessions at the edges of their type and of what may be, and
// some that are the same as those in some of their bits.
var oddSessions = []uint64{0, 1, 2, 7, 255, 256, 32767, 32768, 65534, 65535, 65536, 65537, 1 << 17, 1<<31 - 1, 1 << 31, 1<<32 - 1, 1 << 32, 1<<32 + 1, 1<<32 + 65535, 1<<63 - 1, 1 << 63, 1<<63 + 1, most - 65535, most - 1, most}

// oddInts are kinds, services and groups, most of which may not be.
var oddInts = []int{1, 0, 2, 3, 4, 7, 8, -1, 16, 255, 256, 1 << 16, 1 << 32, leastInt, mostInt, leastInt + 1, 1<<32 + 1}

// oddSlots are numbers of slots at the edges that the document names, and of
// their type.
var oddSlots = []int{leastInt, leastInt + 1, -1 << 32, -16, -1, 0, 1, 2, 3, 8, 14, 15, 16, 17, 18, 31, 32, 33, 256, 1 << 16, 1 << 32, 1<<32 + 1, mostInt - 1, mostInt}

// slip is an entry that waits, told without the program's packages: whose it is,
// and a mark by which it is known from the others.
type slip struct{ session, mark uint64 }

// line is those that wait, in order.
type line []slip

// of is a line of these sessions, each slip with a mark of its own.
func of(sessions ...uint64) line {
	var l line
	for i, s := range sessions {
		l = append(l, slip{s, uint64(i)})
	}
	return l
}

// String tells the beginning of a line, of a test that failed.
func (l line) String() string {
	return fmt.Sprintf("[%d: %v]", len(l), []slip(l[:min(len(l), 20)]))
}

func (l line) same(other line) bool { return slices.Equal(l, other) }

// marks are those of a line's slips.
func (l line) marks() []uint64 {
	var m []uint64
	for _, s := range l {
		m = append(m, s.mark)
	}
	return m
}

// all is the account of Sessions.
func (l line) all() []uint64 {
	known := map[uint64]int{}
	for _, s := range l {
		known[s.session]++
	}
	return slices.Sorted(maps.Keys(known))
}

// whose tells which of some sessions, of which there is one at least, has its
// turn behind last.
func whose(rising []uint64, last uint64) uint64 {
	for _, s := range rising {
		if s > last {
			return s
		}
	}
	return rising[0]
}

// turn is the account of Turn.
func (l line) turn(last uint64) (int, bool) {
	if len(l) == 0 {
		return 0, false
	}
	s := whose(l.all(), last)
	for i := range l {
		if l[i].session == s {
			return i, true
		}
	}
	panic("nobody of a session that waits")
}

// fill is the account of Fill.
func (l line) fill(last uint64, slots int) (line, line, uint64) {
	own := map[uint64]line{}
	for _, s := range l {
		own[s.session] = append(own[s.session], s)
	}
	var taken line
	count := map[uint64]int{}
	for turns := 0; turns < slots && turns < 16 && len(own) > 0; turns++ {
		last = whose(slices.Sorted(maps.Keys(own)), last)
		taken = append(taken, own[last][0])
		count[last]++
		if own[last] = own[last][1:]; len(own[last]) == 0 {
			delete(own, last)
		}
	}
	var rest line
	for _, s := range l {
		if count[s.session]--; count[s.session] < 0 {
			rest = append(rest, s)
		}
	}
	return taken, rest, last
}

// entry is the program's form of a slip; whose turn it is does not hang on what
// it holds beside the session, which may not be, for the most part.
func (s slip) entry() api.Entry {
	pick := func(n uint64) int { return oddInts[n%uint64(len(oddInts))] }
	return api.Entry{
		Kind:    pick(s.mark),
		Service: pick(s.mark / 3),
		Group:   pick(s.mark * 5),
		Session: s.session,
		Number:  s.mark,
		Text:    strings.Repeat("\xff\x00x", int(s.mark%9)),
	}
}

// room is what stands behind a list that is given.
var room = line{{0, 1}, {most, 2}, {5, 3}, {0, 4}}

// listOf is the program's form of a line, in a list with room behind it in which
// something stands, so that writing there is seen.
func listOf(l line) []api.Entry {
	var list []api.Entry
	for _, s := range slices.Concat(l, room) {
		list = append(list, s.entry())
	}
	return slices.Clip(list)[:len(l)]
}

// lineOf is the account's form of entries, which are to be whole.
func lineOf(t *testing.T, list []api.Entry) line {
	t.Helper()
	var l line
	for _, e := range list {
		s := slip{e.Session, e.Number}
		if e != s.entry() {
			t.Fatalf("an entry became %#v, not %#v", e, s.entry())
		}
		l = append(l, s)
	}
	return l
}

// untouched asks that a list made by listOf is what it was, with the room behind
// it.
func untouched(t *testing.T, call string, list []api.Entry, l line) {
	t.Helper()
	want := slices.Concat(l, room)
	all := lineOf(t, list[:len(want)])
	if len(list) != len(l) || !all.same(want) {
		t.Fatalf("%s: what was given became %s, not %s", call, all, want)
	}
}

// overlap tells whether two of some lists, with the room behind them, share
// memory.
func overlap[E any](lists ...[]E) bool {
	var from, to []uintptr
	for _, l := range lists {
		v := reflect.ValueOf(l)
		from = append(from, v.Pointer())
		to = append(to, v.Pointer()+uintptr(v.Cap())*v.Type().Elem().Size())
	}
	for i := range lists {
		for j := range i {
			if from[i] < to[j] && from[j] < to[i] {
				return true
			}
		}
	}
	return false
}

// agreeSessions asks that Sessions says, each time, what the account says, and
// leaves alone what it was given.
func agreeSessions(t *testing.T, l line) []uint64 {
	t.Helper()
	given := listOf(l)
	got, again := sched.Sessions(given), sched.Sessions(given)
	untouched(t, "Sessions", given, l)
	if want := l.all(); !slices.Equal(got, want) || !slices.Equal(again, want) {
		t.Fatalf("Sessions of %s is %v, another time %v, not %v", l, got, again, want)
	}
	if overlap(got, again) {
		t.Fatalf("Sessions of %s shares memory", l)
	}
	return got
}

// agreeTurn asks that Turn says, each time, what the account says, and leaves
// alone what it was given.
func agreeTurn(t *testing.T, l line, last uint64) (int, bool) {
	t.Helper()
	given := listOf(l)
	at, ok := sched.Turn(given, last)
	same, is := sched.Turn(given, last)
	untouched(t, "Turn", given, l)
	if want, may := l.turn(last); at != want || ok != may || same != want || is != may {
		t.Fatalf("Turn of %s behind %d is %d, %v, another time %d, %v, not %d, %v", l, last, at, ok, same, is, want, may)
	}
	return at, ok
}

// agreeFill asks that Fill says, each time, what the account says, leaves alone
// what it was given, and answers memory of its own.
func agreeFill(t *testing.T, l line, last uint64, slots int) (line, line, uint64) {
	t.Helper()
	name := fmt.Sprintf("Fill of %d of %s behind %d", slots, l, last)
	taken, rest, end := l.fill(last, slots)
	given := listOf(l)
	var answers [][]api.Entry
	for range 2 {
		a, b, c := sched.Fill(given, last, slots)
		if !lineOf(t, a).same(taken) || !lineOf(t, b).same(rest) || c != end {
			t.Fatalf("%s is %s, %s, %d, not %s, %s, %d", name, lineOf(t, a), lineOf(t, b), c, taken, rest, end)
		}
		answers = append(answers, a, b)
	}
	untouched(t, name, given, l)
	if overlap(append(answers, given)...) {
		t.Fatalf("%s shares memory", name)
	}
	return taken, rest, end
}

// agreeAll asks that all calls say what the account says.
func agreeAll(t *testing.T, l line, lasts []uint64, slots []int) {
	t.Helper()
	agreeSessions(t, l)
	for _, last := range lasts {
		agreeTurn(t, l, last)
		for _, n := range slots {
			agreeFill(t, l, last, n)
		}
	}
}

// drawnSession is one of few, seldom one at an edge, or any.
func drawnSession(r *rand.Rand) uint64 {
	switch r.Intn(8) {
	case 0:
		return oddSessions[r.Intn(len(oddSessions))]
	case 1:
		return r.Uint64()
	case 2, 3:
		return uint64(r.Intn(65537))
	}
	return uint64(r.Intn(5))
}

// drawnLine is up to as many slips, of sessions that are drawn.
func drawnLine(r *rand.Rand, n int) line {
	var l line
	for range r.Intn(n + 1) {
		l = append(l, slip{drawnSession(r), r.Uint64() >> r.Intn(64)})
	}
	return l
}

// drawnLast is a session that waits, one beside it, or any.
func drawnLast(r *rand.Rand, l line) uint64 {
	if len(l) > 0 && r.Intn(3) > 0 {
		return l[r.Intn(len(l))].session + uint64(r.Intn(3)) - 1
	}
	return drawnSession(r)
}

// every calls what it is given with each line of n slips, of some sessions.
func every(n int, sessions []uint64, call func(line)) {
	places := make([]int, n)
	for {
		var l line
		for i, p := range places {
			l = append(l, slip{sessions[p], uint64(i)})
		}
		call(l)
		i := 0
		for ; i < n; i++ {
			if places[i]++; places[i] < len(sessions) {
				break
			}
			places[i] = 0
		}
		if i == n {
			return
		}
	}
}

// ends asks that a call ends, without a panic.
func ends(t *testing.T, name string, call func()) {
	t.Helper()
	done := make(chan any)
	go func() {
		defer func() { done <- recover() }()
		call()
	}()
	select {
	case what := <-done:
		if what != nil {
			t.Fatalf("%s: a panic: %v", name, what)
		}
	case <-time.After(time.Minute):
		t.Fatalf("%s does not end", name)
	}
}
