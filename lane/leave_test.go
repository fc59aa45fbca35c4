package lane_test

import (
	"slices"
	"testing"
)

// in and out are a session's join of a group, and its leave.
func in(group int, session uint64) slip { return slip{joins, agreed, group, session, 0, ""} }

func out(group int, session uint64) slip { return slip{leaves, agreed, group, session, 0, ""} }

// withControl asks that a box has these in Control, and wants these.
func withControl(t *testing.T, b box, wanted []guest, control ...slip) {
	t.Helper()
	if !slices.Equal(b.wanted, wanted) || !slices.Equal(b.control, control) {
		t.Fatalf("Wanted is %v, Control %v, not %v, %v", b.wanted, b.control, wanted, control)
	}
}

// two is a box with the sessions 1 and 2, of the handles 9 and 8, at daemon 3.
func two(t *testing.T) box {
	t.Helper()
	return asks(t, began(0, 3, 9, 8), "open", fine, "open", fine)
}

// P23.2: join: what is wanted, in order, and what is sent.
func TestJoin(t *testing.T) {
	b := answered(t, two(t), "join 9 4", sight{session: 1, group: 4})
	withControl(t, b, []guest{{4, 3, 1}}, in(4, 1))
	refused(t, b, "join 9 4", badGroup)
	b = asks(t, b, "join 8 4", fine, "join 8 0", fine, "join 9 7", fine, "join 9 0", fine, "join 9 2", fine)
	withControl(t, b, []guest{{0, 3, 1}, {0, 3, 2}, {2, 3, 1}, {4, 3, 1}, {4, 3, 2}, {7, 3, 1}},
		in(4, 1), in(4, 2), in(0, 2), in(7, 1), in(0, 1), in(2, 1))
	for _, s := range []string{"join 9 0", "join 9 2", "join 9 4", "join 9 7", "join 8 0", "join 8 4"} {
		refused(t, b, s, badGroup)
	}
	asks(t, b, "join 8 2", fine, "join 8 7", fine)
}

// P23.2: a group that another session wants, or one of another daemon, is not
// wanted by that; neither is one in whose table the session is.
func TestJoinOthers(t *testing.T) {
	b := two(t)
	b.wanted = []guest{{1, 2, 1}, {1, 3, 2}, {1, 4, 1}, {2, 3, 1}}
	b.table = []guest{{1, 3, 1}}
	refused(t, b, "leave 9 1", badGroup)
	refused(t, b, "send 9 1 fifo =", badMember)
	b = asks(t, b, "join 9 1", fine)
	withControl(t, b, []guest{{1, 2, 1}, {1, 3, 1}, {1, 3, 2}, {1, 4, 1}, {2, 3, 1}}, in(1, 1))
}

// P23.2: leave, once it was joined and that was sent.
func TestLeave(t *testing.T) {
	b := asks(t, two(t), "join 9 1", fine, "join 9 2", fine, "join 8 1", fine)
	b.control = nil
	refused(t, b, "leave 8 2", badGroup)
	refused(t, b, "leave 9 3", badGroup)
	b = answered(t, b, "leave 9 1", sight{session: 1, group: 1})
	withControl(t, b, []guest{{1, 3, 2}, {2, 3, 1}}, out(1, 1))
	refused(t, b, "leave 9 1", badGroup)
	b = asks(t, b, "leave 8 1", fine, "leave 9 2", fine)
	withControl(t, b, nil, out(1, 1), out(1, 2), out(2, 1))
}

// P23.2: a leave behind a join that still stands in Control, and a join behind such
// a leave: neither is sent.
func TestUnsent(t *testing.T) {
	b := asks(t, two(t), "join 9 1", fine, "join 8 1", fine, "join 9 2", fine)
	left := asks(t, b, "leave 9 1", fine)
	withControl(t, left, []guest{{1, 3, 2}, {2, 3, 1}}, in(1, 2), in(2, 1))
	left = asks(t, left, "join 9 1", fine, "leave 9 2", fine)
	withControl(t, left, []guest{{1, 3, 1}, {1, 3, 2}}, in(1, 2), in(1, 1))

	b.control = nil
	b = asks(t, b, "leave 9 2", fine, "leave 9 1", fine, "leave 8 1", fine)
	back := asks(t, b, "join 9 1", fine)
	withControl(t, back, []guest{{1, 3, 1}}, out(2, 1), out(1, 2))
	back = asks(t, back, "join 8 2", fine)
	withControl(t, back, []guest{{1, 3, 1}, {2, 3, 2}}, out(2, 1), out(1, 2), in(2, 2))
	back = asks(t, back, "join 8 1", fine, "join 9 2", fine)
	withControl(t, back, []guest{{1, 3, 1}, {1, 3, 2}, {2, 3, 1}, {2, 3, 2}}, in(2, 2))
}

// P23.2: which ones in Control count: those of this kind, group and session, of
// whatever service; of two the first one goes.
func TestUnsentOnes(t *testing.T) {
	stray := slip{joins, safe, 1, 1, 77, "stray"}
	others := []slip{in(2, 1), in(1, 2), out(1, 1), {sends, agreed, 1, 1, 0, ""}, {nothing, agreed, 1, 1, 0, ""}, {4, agreed, 1, 1, 0, ""}}
	b := two(t)
	b.wanted = []guest{{1, 3, 1}}

	b.control = others
	withControl(t, asks(t, b, "leave 9 1", fine), nil, push(others, out(1, 1))...)
	b.control = slices.Concat(others, []slip{stray, in(1, 1), in(1, 1)})
	withControl(t, asks(t, b, "leave 9 1", fine), nil, slices.Concat(others, []slip{in(1, 1), in(1, 1)})...)
	b.control = slices.Concat(others, []slip{in(1, 1), stray, in(1, 1)})
	withControl(t, asks(t, b, "leave 9 1", fine), nil, slices.Concat(others, []slip{stray, in(1, 1)})...)

	b.wanted, stray.kind = nil, leaves
	others[2] = in(1, 1)
	b.control = others
	withControl(t, asks(t, b, "join 9 1", fine), []guest{{1, 3, 1}}, push(others, in(1, 1))...)
	b.control = slices.Concat(others, []slip{stray, out(1, 1), out(1, 1)})
	withControl(t, asks(t, b, "join 9 1", fine), []guest{{1, 3, 1}}, slices.Concat(others, []slip{out(1, 1), out(1, 1)})...)
}

// P23.2: close of a session that wants no group, some of them and all.
func TestClose(t *testing.T) {
	b := answered(t, two(t), "close 9", sight{session: 1})
	withControl(t, b, nil)
	if want := []seat{{2, 0}}; !slices.Equal(b.seats, want) || b.last != 2 || !slices.Equal(b.keys, []key{{8, 2, all, false}}) {
		t.Errorf("sessions: %v, last %d, capabilities %v", b.seats, b.last, b.keys)
	}
	refused(t, b, "close 9", badRight)

	b = asks(t, two(t), "join 9 6", fine, "join 8 1", fine, "join 9 1", fine, "join 9 3", fine)
	b.control = []slip{in(3, 1), in(1, 2)}
	withControl(t, asks(t, b, "close 9", fine), []guest{{1, 3, 2}}, in(1, 2), out(1, 1), out(6, 1))
	withControl(t, asks(t, b, "close 8", fine), []guest{{1, 3, 1}, {3, 3, 1}, {6, 3, 1}}, in(3, 1))

	b = two(t)
	for _, s := range []string{"join 9 7", "join 9 6", "join 9 5", "join 9 4", "join 9 3", "join 9 2", "join 9 1", "join 9 0", "join 8 0"} {
		b = asks(t, b, s, fine)
	}
	withControl(t, asks(t, b, "close 9", fine), []guest{{0, 3, 2}}, in(0, 2))
	b.control = nil
	withControl(t, asks(t, b, "close 9", fine), []guest{{0, 3, 2}},
		out(0, 1), out(1, 1), out(2, 1), out(3, 1), out(4, 1), out(5, 1), out(6, 1), out(7, 1))
}

// P23.2: what of the session's is left away at its close, and what stays.
func TestCloseLeaves(t *testing.T) {
	b := asks(t, two(t), "mint 9 1", fine, "mint 9 2", fine, "mint 8 4", fine, "revoke 9 9223372036854775811", fine)
	b.waiting = []slip{{sends, fifo, 1, 1, 1, "a"}, {sends, safe, 2, 2, 1, "b"}, {sends, fifo, 1, 1, 2, "c"}, {sends, fifo, 1, 2, 2, "d"}}
	b.table, b.turn = []guest{{1, 3, 1}, {1, 3, 2}}, 1
	b.queue = []item{{spot{1, 3, 0}, slip{sends, safe, 1, 1, 9, "q"}}}
	then := asks(t, b, "close 9", fine)
	if want := []slip{b.waiting[1], b.waiting[3]}; !slices.Equal(then.waiting, want) {
		t.Errorf("waits: %v", then.waiting)
	}
	if want := []key{{8, 2, all, false}, {1<<63 + 4, 2, talk, false}}; !slices.Equal(then.keys, want) {
		t.Errorf("capabilities: %v", then.keys)
	}
	if !slices.Equal(then.table, b.table) || !slices.Equal(then.queue, b.queue) || then.turn != 1 || then.used != b.used {
		t.Errorf("%s", then.unlike(b))
	}
	// With a capability that was minted, too.
	then = answered(t, b, "close 9223372036854775810", sight{session: 1})
	if len(then.seats) != 1 || len(then.keys) != 2 {
		t.Errorf("%s", then.unlike(b))
	}
	// None is closed of which there is none, and nothing of it goes.
	b.seats = b.seats[1:]
	refused(t, b, "close 9", badSession)
	// Of two that have one Id the first one goes.
	b.seats = []seat{{2, 3}, {1, 4}, {1, 5}}
	if then = asks(t, b, "close 9", fine); !slices.Equal(then.seats, []seat{{2, 3}, {1, 5}}) {
		t.Errorf("sessions: %v", then.seats)
	}
}

// P23.2: lists to which no calls lead: close leaves each group that the session
// wants, once, in the order in which they stand, and nobody else's.
func TestCloseOdd(t *testing.T) {
	b := two(t)
	b.wanted = []guest{{5, 3, 1}, {2, 4, 1}, {-1, 3, 1}, {5, 3, 1}, {2, 3, 1}, {2, 3, 2}, {mostInt, 3, 1}, {2, 3, 1}}
	then := asks(t, b, "close 9", fine)
	withControl(t, then, []guest{{2, 4, 1}, {2, 3, 2}}, out(5, 1), out(-1, 1), out(2, 1), out(mostInt, 1))
	// One that is left is wanted no more, however often it stood.
	then = asks(t, b, "leave 9 5", fine)
	withControl(t, then, []guest{{2, 4, 1}, {-1, 3, 1}, {2, 3, 1}, {2, 3, 2}, {mostInt, 3, 1}, {2, 3, 1}}, out(5, 1))
	refused(t, then, "leave 9 5", badGroup)
	// One that comes in stands ahead of the first one that is not ahead of it.
	b.wanted = []guest{{2, 3, 1}, {6, 3, 1}, {1, 3, 1}}
	then = asks(t, b, "join 9 4", fine)
	withControl(t, then, []guest{{2, 3, 1}, {4, 3, 1}, {6, 3, 1}, {1, 3, 1}}, in(4, 1))
}
