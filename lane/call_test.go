package lane_test

import (
	"fmt"
	"slices"
	"testing"

	"congress/api"
	"congress/lane"
)

// answered is a box behind a request, whose answer is asked to be this one.
func answered(t *testing.T, b box, s string, want sight) box {
	t.Helper()
	then, seen := agreeCall(t, b, 5, s)
	if seen != want {
		t.Fatalf("%q: %+v, not %+v", s, seen, want)
	}
	return then
}

// refused asks that a box does not obey, and that nothing but one note came of it.
func refused(t *testing.T, b box, s string, code int) {
	t.Helper()
	then := answered(t, b, s, sight{code: code})
	if n := len(b.notes); len(then.notes) != n+1 || then.notes[n].code != code {
		t.Fatalf("%q: the notes are %v", s, then.notes)
	}
	if then.notes = b.notes; !then.same(b) {
		t.Fatalf("%q: %s", s, then.unlike(b))
	}
}

// filled is as many slips that wait, of a session in a group.
func filled(n int, session uint64, group int) []slip {
	var l []slip
	for i := range n {
		l = append(l, slip{sends, fifo, group, session, uint64(i + 1), "x"})
	}
	return l
}

// The chapter's example.
func TestExample(t *testing.T) {
	b := began(0, 0, 9)
	b = answered(t, b, "open", sight{session: 1, number: 1, handle: 9})
	b = answered(t, b, "join 9 1", sight{session: 1, group: 1})
	if want := []slip{{joins, agreed, 1, 1, 0, ""}}; !slices.Equal(b.control, want) {
		t.Errorf("Control is %v", b.control)
	}
	b = answered(t, b, "send 9 1 safe =hi", sight{session: 1, number: 1, group: 1})
	if want := []slip{{sends, safe, 1, 1, 1, "hi"}}; !slices.Equal(b.waiting, want) {
		t.Errorf("Waiting is %v", b.waiting)
	}
	refused(t, b, "send 8 1 safe =hi", badRight)
}

// P23.2: what is no request is answered so by any lane, and is a record.
func TestNoRequest(t *testing.T) {
	b := asks(t, began(1, 2, 9, 8), "open", fine, "join 9 1", fine)
	for _, s := range oddRequests {
		refused(t, b, s, noRequest)
		refused(t, box{}, s, noRequest)
	}
	// That comes ahead of what else is wrong with it.
	refused(t, b, "join 77 8", noRequest)
	refused(t, b, "mint 77 0", noRequest)
	refused(t, b, "send 77 1 safe hi", noRequest)
}

// P23.2: open: whose, which handle, what it gives.
func TestOpen(t *testing.T) {
	b := began(1, 3, 9, 7)
	b = answered(t, b, "open", sight{session: 1, number: 1, handle: 9})
	b = answered(t, b, "open", sight{session: 2, number: 2, handle: 7})
	if want := []key{{9, 1, all, false}, {7, 2, all, false}}; !slices.Equal(b.keys, want) || b.used != 2 {
		t.Errorf("capabilities: %v, %d used", b.keys, b.used)
	}
	if want := []seat{{1, 0}, {2, 0}}; !slices.Equal(b.seats, want) || b.last != 2 {
		t.Errorf("sessions: %v, last %d", b.seats, b.last)
	}
	// Of closed ones none comes again.
	b = asks(t, b, "close 9", fine)
	b = answered(t, b, "open", sight{session: 3, number: 3, handle: 1<<63 + 2})
	b = answered(t, b, "open", sight{session: 4, number: 4, handle: 1<<63 + 3})
	b = answered(t, b, "open", sight{session: 5, number: 5, handle: 1<<63 + 4})
	refused(t, b, "open", full)
}

// P23.2: the errors of open, one by one and together.
func TestOpenErrors(t *testing.T) {
	many := make([]key, 16)
	for i := range many {
		many[i] = key{uint64(i + 1), 1, all, i%2 == 0}
	}
	seats := []seat{{1, 0}, {2, 0}, {3, 0}, {4, 0}}
	for what, c := range map[string]struct {
		seats []seat
		last  uint64
		keys  []key
		draw  uint64
		code  int
	}{
		"nothing is wrong":                {seats[:3], 4, many[:15], 99, fine},
		"four sessions":                   {seats, 4, nil, 99, full},
		"five sessions":                   {append(seats, seat{5, 0}), 5, nil, 99, full},
		"the last Id but one":             {nil, 65534, nil, 99, fine},
		"the last Id":                     {nil, 65535, nil, 99, full},
		"one above the last Id":           {nil, most, nil, 99, full},
		"a draw of 0":                     {seats[:3], 4, many[:15], 0, badArg},
		"a draw that is had":              {seats[:3], 4, many[:15], 4, badArg},
		"a draw that is had, revoked":     {seats[:3], 4, many[:15], 5, badArg},
		"sixteen capabilities":            {seats[:3], 4, many, 99, full},
		"seventeen capabilities":          {seats[:3], 4, append(many, key{17, 1, all, false}), 99, full},
		"sixteen, and a draw of 0":        {seats[:3], 4, many, 0, badArg},
		"sixteen, and a draw that is had": {seats[:3], 4, many, 16, badArg},
		"four sessions, and a draw of 0":  {seats, 4, many, 0, full},
		"the last Id, and one that's had": {nil, 65535, many, 1, full},
	} {
		t.Run(what, func(t *testing.T) {
			b := began(0, 0, c.draw)
			b.seats, b.last, b.keys = c.seats, c.last, c.keys
			if c.code != fine {
				refused(t, b, "open", c.code)
				return
			}
			answered(t, b, "open", sight{session: c.last + 1, number: c.last + 1, handle: 99})
		})
	}
}

// P23.2: the next handle, and by which calls it is used up.
func TestNextHandle(t *testing.T) {
	draws := []uint64{90, 91, 92}
	for _, c := range []struct {
		used   int
		handle uint64
	}{
		{0, 90}, {1, 91}, {2, 92}, {3, 1<<63 + 3}, {4, 1<<63 + 4}, {1000, 1<<63 + 1000}, {1 << 32, 1<<63 + 1<<32},
		{mostInt - 1, most - 1}, {mostInt, most}, {-1, 1<<63 - 1}, {-3, 1<<63 - 3}, {leastInt + 1, 1},
	} {
		b := began(0, 0, draws...)
		b.used, b.keys = c.used, []key{{9, 1, all, false}}
		b.seats, b.last = []seat{{1, 0}}, 1
		opened := answered(t, b, "open", sight{session: 2, number: 2, handle: c.handle})
		minted := answered(t, b, "mint 9 3", sight{session: 1, handle: c.handle})
		if next := int(uint64(c.used) + 1); opened.used != next || minted.used != next {
			t.Errorf("used %d, then %d and %d", c.used, opened.used, minted.used)
		}
		for _, s := range []string{"close 9", "revoke 9 9", "join 9 1", "send 9 1 safe =", "leave 9 1", "mint 8 1", "nothing"} {
			if then, _ := agreeCall(t, b, 1, s); then.used != c.used {
				t.Errorf("%s: used %d, not %d", s, then.used, c.used)
			}
		}
	}
	// The handle 0 is none; of no draws the first one is 2^63.
	b := began(0, 0)
	b.used = leastInt
	refused(t, b, "open", badArg)
	answered(t, began(0, 0), "open", sight{session: 1, number: 1, handle: 1 << 63})
	// A draw that may not be is not gone by: it is the next one still.
	b = asks(t, began(0, 0, 9, 9, 7), "open", fine, "open", badArg, "mint 9 1", badArg, "close 9", fine)
	b = answered(t, b, "open", sight{session: 2, number: 2, handle: 9})
	answered(t, b, "open", sight{session: 3, number: 3, handle: 7})
	// One that was counted may be one that was drawn.
	b = asks(t, began(0, 0, 1<<63+1), "open", fine, "open", badArg)
}

// P23.2: of each request but open: which capability does for it.
func TestRights(t *testing.T) {
	b := began(2, 1, 100, 101)
	b.seats, b.last = []seat{{1, 0}, {2, 0}}, 2
	for give := 1; give <= all; give++ {
		b.keys = append(b.keys, key{uint64(10 + give), 1, give, false}, key{uint64(20 + give), 1, give, true})
	}
	b.wanted = []guest{{1, 1, 1}}
	for request, need := range map[string]int{
		"close %d": owns, "mint %d 1": owns, "revoke %d 17": owns, "join %d 2": goes, "leave %d 1": goes, "send %d 1 safe =": talk,
	} {
		for give := 1; give <= all; give++ {
			if s := fmt.Sprintf(request, 10+give); give&need == 0 {
				refused(t, b, s, badRight)
			} else if _, seen := agreeCall(t, b, 1, s); seen.code != fine || seen.session != 1 {
				t.Errorf("%s: %+v", s, seen)
			}
			refused(t, b, fmt.Sprintf(request, 20+give), badRight)
		}
		for _, handle := range []uint64{0, 1, 2, 18, most} {
			refused(t, b, fmt.Sprintf(request, handle), badRight)
		}
	}
	// One that was revoked is not had again by a later one with its handle.
	b.keys = []key{{9, 1, all, true}, {9, 1, all, false}}
	refused(t, b, "join 9 2", badRight)
}

// P23.2: a capability that does not do for it is told ahead of what else is wrong.
func TestRightsFirst(t *testing.T) {
	b := began(0, 0, 0)
	b.keys = []key{{9, 5, goes | talk, false}, {8, 5, owns, false}}
	refused(t, b, "close 9", badRight)
	refused(t, b, "close 8", badSession)
	refused(t, b, "mint 9 1", badRight)
	refused(t, b, "mint 8 1", badArg)
	refused(t, b, "leave 8 1", badRight)
	refused(t, b, "leave 9 1", badGroup)
	refused(t, b, "send 8 1 fifo =", badRight)
	refused(t, b, "send 9 1 fifo =", badMember)
	b.wanted = []guest{{1, 0, 5}}
	refused(t, b, "join 8 1", badRight)
	refused(t, b, "join 9 1", badGroup)
}

// P23.2: mint.
func TestMint(t *testing.T) {
	b := asks(t, began(0, 0, 9, 8, 7, 6, 0, 5), "open", fine, "open", fine)
	for give, handle := range map[int]uint64{1: 7, 2: 7, 7: 7} {
		then := answered(t, b, fmt.Sprintf("mint 9 %d", give), sight{session: 1, handle: handle})
		if want := push(b.keys, key{7, 1, give, false}); !slices.Equal(then.keys, want) || then.used != 3 {
			t.Errorf("capabilities: %v, %d used", then.keys, then.used)
		}
	}
	// What was minted mints too, for its session; what does not own does not.
	b = answered(t, b, "mint 8 1", sight{session: 2, handle: 7})
	b = answered(t, b, "mint 7 6", sight{session: 2, handle: 6})
	refused(t, b, "mint 6 1", badRight)
	// The next draw is 0.
	refused(t, b, "mint 8 1", badArg)
	// A full table, with a handle that may be, and one that may not.
	b.used = 5
	for i := range 12 {
		b.keys = push(b.keys, key{uint64(100 + i), 1, talk, true})
	}
	refused(t, b, "mint 8 1", full)
	b.draws = []uint64{0, 0, 0, 0, 0, 0}
	refused(t, b, "mint 8 1", badArg)
	b.keys = b.keys[:15]
	b.used = 6
	answered(t, b, "mint 8 1", sight{session: 2, handle: 1<<63 + 6})
}

// P23.2: revoke: a handle of the session's own, of another one, of none, twice.
func TestRevoke(t *testing.T) {
	b := asks(t, began(0, 0, 9, 8, 7, 6), "open", fine, "open", fine, "mint 9 6", fine, "mint 8 6", fine)
	then := answered(t, b, "revoke 9 7", sight{session: 1})
	if want := []key{{9, 1, all, false}, {8, 2, all, false}, {7, 1, 6, true}, {6, 2, 6, false}}; !slices.Equal(then.keys, want) {
		t.Errorf("capabilities: %v", then.keys)
	}
	refused(t, then, "revoke 9 7", badRight)
	refused(t, then, "join 7 1", badRight)
	for _, other := range []string{"8", "6", "5", "0", "18446744073709551615"} {
		refused(t, b, "revoke 9 "+other, badRight)
	}
	// Its own, with which nothing is done any more.
	then = answered(t, b, "revoke 9 9", sight{session: 1})
	refused(t, then, "revoke 9 7", badRight)
	refused(t, then, "close 9", badRight)
	asks(t, then, "join 7 1", fine)
	// One that does not own may be revoked, but revokes none.
	refused(t, b, "revoke 7 9", badRight)
	// Of two with one handle the first one counts.
	b.keys = []key{{9, 1, all, false}, {7, 2, all, false}, {7, 1, all, false}}
	refused(t, b, "revoke 9 7", badRight)
	b.keys = []key{{9, 1, all, false}, {7, 1, all, true}, {7, 1, all, false}}
	refused(t, b, "revoke 9 7", badRight)
	b.keys = []key{{9, 1, all, false}, {7, 1, talk, false}, {7, 2, all, false}}
	if then = answered(t, b, "revoke 9 7", sight{session: 1}); !then.keys[1].gone || then.keys[2].gone {
		t.Errorf("capabilities: %v", then.keys)
	}
}

// P23.2: send: its errors in their order, and the Numbers of a session.
func TestSend(t *testing.T) {
	b := asks(t, began(0, 4, 9, 8), "open", fine, "open", fine)
	refused(t, b, "send 9 3 fifo =a", badMember)
	b = asks(t, b, "join 9 3", fine, "join 8 5", fine)
	refused(t, b, "send 8 3 fifo =a", badMember)
	refused(t, b, "send 9 5 fifo =a", badMember)
	for i, s := range serviceNames {
		n := uint64(i + 1)
		b = answered(t, b, "send 9 3 "+s+" =a "+s, sight{session: 1, number: n, group: 3})
		if want := (slip{sends, i, 3, 1, n, "a " + s}); b.waiting[len(b.waiting)-1] != want {
			t.Errorf("%s: waits: %v", s, b.waiting)
		}
	}
	// Each session has its own.
	b = answered(t, b, "send 8 5 safe =", sight{session: 2, number: 1, group: 5})
	b = answered(t, b, "send 9 3 safe =", sight{session: 1, number: 5, group: 3})
	if want := []seat{{1, 5}, {2, 1}}; !slices.Equal(b.seats, want) || len(b.waiting) != 6 {
		t.Errorf("sessions: %v, waits: %v", b.seats, b.waiting)
	}
	// Behind asking to leave nothing is sent any more; what waits stays.
	b = asks(t, b, "leave 9 3", fine, "send 9 3 safe =", badMember)
	if len(b.waiting) != 6 {
		t.Errorf("waits: %v", b.waiting)
	}
}

// P23.2: 7, 8 and 9 that wait, and the Numbers at their end.
func TestSendFull(t *testing.T) {
	for _, wait := range []int{0, 6, 7, 8, 9, 20} {
		for _, number := range []uint64{0, 1<<32 - 3, 1<<32 - 2, 1<<32 - 1, 1 << 32, most} {
			for _, in := range []bool{true, false} {
				for _, there := range []bool{true, false} {
					b := began(0, 0)
					b.keys, b.waiting = []key{{9, 1, all, false}}, filled(wait, 2, 1)
					b.seats = []seat{{2, 3}}
					if in {
						b.wanted = []guest{{1, 0, 1}}
					}
					if there {
						b.seats = append(b.seats, seat{1, number}, seat{1, 4})
					}
					const s = "send 9 1 agreed =x"
					switch {
					case !in:
						refused(t, b, s, badMember)
					case wait > 7:
						refused(t, b, s, full)
					case !there || number >= 1<<32-1:
						refused(t, b, s, badSession)
					default:
						then := answered(t, b, s, sight{session: 1, number: number + 1, group: 1})
						if last := then.waiting[wait]; len(then.waiting) != wait+1 || last != (slip{sends, agreed, 1, 1, number + 1, "x"}) {
							t.Errorf("waits: %v", then.waiting)
						}
					}
				}
			}
		}
	}
}

// P23.2: each call is one record, with a tick that does not fall.
func TestAudit(t *testing.T) {
	b := began(0, 0, 9)
	type call struct {
		tick uint32
		s    string
	}
	for _, c := range []call{{5, "open"}, {7, "open x"}, {6, "join 9 1"}, {0, ""}, {7, "send 9 2 fifo =\x00\xff"}, {8, "close 8"}, {mostRound, "leave 9 1"}, {3, "close 9"}} {
		b, _ = agreeCall(t, b, c.tick, c.s)
	}
	want := []note{
		{1, 5, "open", fine}, {2, 7, "open x", noRequest}, {3, 7, "join 9 1", fine}, {4, 7, "", noRequest},
		{5, 7, "send 9 2 fifo =\x00\xff", badMember}, {6, 8, "close 8", badRight}, {7, mostRound, "leave 9 1", fine}, {8, mostRound, "close 9", fine},
	}
	if !slices.Equal(b.notes, want) {
		t.Errorf("the notes are %v", b.notes)
	}
	// Lists that are no audit go on by how many there are, and by the last one.
	b.notes = []note{{7, 9, "x", 3}, {7, 4, "y", -1}}
	b, _ = agreeCall(t, b, 2, "open")
	if last := b.notes[2]; last != (note{3, 4, "open", fine}) {
		t.Errorf("the last note is %v", last)
	}
}

// P23.2: the answer is an answer, whatever it is.
func TestAnswers(t *testing.T) {
	for _, s := range []string{"open", "nothing", "close 9"} {
		if _, x := lane.Call(api.Lane{Draws: []uint64{9}}, 1, s); x.Kind != api.SeenAnswer {
			t.Errorf("%s: %+v", s, x)
		}
	}
}
