package group_test

import (
	"math/rand"
	"testing"

	"congress/api"
	"congress/group"
)

// less asks that Less says of two guests, in both orders, and of each beside
// itself, what is wanted.
func less(t *testing.T, a, b guest, want bool) {
	t.Helper()
	x, y := memberOf(a), memberOf(b)
	if got := group.Less(x, y); got != want {
		t.Fatalf("Less of %v and %v is %v", a, b, got)
	}
	if got := group.Less(y, x); got != (!want && a != b) {
		t.Fatalf("Less of %v and %v is %v", b, a, got)
	}
	if group.Less(x, x) || group.Less(y, y) {
		t.Fatalf("%v or %v stands ahead of itself", a, b)
	}
}

// P18.1: by group, then daemon, then session.
func TestLess(t *testing.T) {
	for name, x := range map[string][2]guest{
		"the group alone":                  {{1, 3, 5}, {2, 3, 5}},
		"the daemon alone":                 {{2, 3, 5}, {2, 4, 5}},
		"the session alone":                {{2, 3, 5}, {2, 3, 6}},
		"group ahead of daemon":            {{1, 4, 5}, {2, 3, 5}},
		"group ahead of session":           {{1, 3, 6}, {2, 3, 5}},
		"group ahead of both":              {{1, 4, 6}, {2, 3, 5}},
		"daemon ahead of session":          {{2, 3, 6}, {2, 4, 5}},
		"group, with both":                 {{1, 3, 5}, {2, 4, 6}},
		"daemon, with session":             {{2, 3, 5}, {2, 4, 6}},
		"group, with daemon":               {{1, 3, 6}, {2, 4, 5}},
		"group, with session":              {{1, 4, 5}, {2, 3, 6}},
		"a group below 0":                  {{-1, 7, 9}, {0, 0, 0}},
		"a daemon below 0":                 {{3, -1, 9}, {3, 0, 0}},
		"the least and the greatest group": {{leastInt, 0, 0}, {mostInt, 0, 0}},
		"the least and greatest daemon":    {{0, leastInt, 0}, {0, mostInt, 0}},
		"the least and greatest session":   {{0, 0, 0}, {0, 0, most}},
		"a session with the highest bit":   {{0, 0, 1<<63 - 1}, {0, 0, 1 << 63}},
		"all least, all greatest":          {{leastInt, leastInt, 0}, {mostInt, mostInt, most}},
		"the least group, all else great":  {{leastInt, mostInt, most}, {leastInt + 1, leastInt, 0}},
		"the greatest group, daemons":      {{mostInt, leastInt, most}, {mostInt, mostInt, 0}},
	} {
		t.Run(name, func(t *testing.T) { less(t, x[0], x[1], true) })
	}
}

// P18.1: of two that are equal none stands ahead.
func TestLessEqual(t *testing.T) {
	for _, g := range oddInts {
		for _, d := range oddInts {
			for _, s := range oddSessions {
				less(t, guest{g, d, s}, guest{g, d, s}, false)
			}
		}
	}
}

// P18.1: all guests whose fields are at an edge, beside each other.
func TestLessEdges(t *testing.T) {
	ints := []int{leastInt, -1, 0, 7, mostInt}
	sessions := []uint64{0, 1, 65535, 65536, 1 << 63, most}
	p := every(ints, ints, sessions)
	for i, a := range p {
		for j, b := range p {
			if i <= j {
				less(t, a, b, i < j)
			}
		}
	}
}

// P18.1: drawn ones, held against the account.
func TestLessDrawn(t *testing.T) {
	r := rand.New(rand.NewSource(181))
	for range 30000 {
		a, b := drawnGuest(r), drawnGuest(r)
		less(t, a, b, a.rank() < b.rank())
	}
}

// The kinds of entries, and the limits, are those that the document says.
func TestNumbers(t *testing.T) {
	if api.EntNone != nothing || api.EntSend != sends || api.EntJoin != joins || api.EntLeave != leaves || api.EntKinds != 4 {
		t.Fatal(api.EntNone, api.EntSend, api.EntJoin, api.EntLeave, api.EntKinds)
	}
	if api.Groups != 8 || api.Daemons != 8 {
		t.Fatal(api.Groups, api.Daemons)
	}
}
