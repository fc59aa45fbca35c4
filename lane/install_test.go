package lane_test

import (
	"slices"
	"testing"
)

var next = name{7, 1, 2}

// P23.5: a queue with each kind of entry: all of it is delivered, in order, in the
// configuration that ends, and into the next one; then each session sees that.
func TestInstall(t *testing.T) {
	b := hall(guest{3, 0, 7}, guest{3, 2, 1})
	b.members = [8]uint32{}
	at := func(round uint32, s slip) item { return item{spot{round, 1, 0}, s} }
	b.queue = []item{
		at(1, slip{sends, safe, 3, 1, 4, "s"}), at(2, slip{sends, fifo, 3, 1, 5, "f"}), at(3, in(3, 7)), at(4, slip{sends, 9, 3, 1, 6, "x"}),
		at(5, slip{nothing, agreed, 3, 1, 7, "n"}), at(6, slip{9, agreed, 3, 1, 8, "k"}), at(7, in(3, 7)), {spot{8, 2, 0}, out(3, 1)},
		at(9, slip{sends, causal, 3, 1, 9, "late"}), {spot{10, 2, 1}, in(3, 2)}, at(11, slip{sends, agreed, 3, 2, 10, "last"}),
	}
	message := func(session, of, number uint64, text string) sight {
		return sight{session: session, kind: messages, number: number, group: 3, conf: b.conf, into: next, from: guest{3, 1, of}, text: text}
	}
	view := func(session, number uint64, text string) sight {
		return sight{session: session, kind: views, number: number, group: 3, conf: b.conf, into: next, view: text}
	}
	conf := func(session uint64) sight { return sight{session: session, kind: confs, conf: next} }
	then, seen := agreeInstall(t, b, next, [8]uint32{1, 3})
	want := []sight{
		message(1, 1, 4, "s"), message(1, 1, 5, "f"), view(1, 6, "0.7 1.7 2.1 "), message(1, 1, 6, "x"),
		view(2, 8, "0.7 1.7 2.2 "), message(2, 2, 10, "last"), conf(1), conf(2),
	}
	if !slices.Equal(seen, want) {
		t.Errorf("seen:\n%+v, not\n%+v", seen, want)
	}
	if len(then.queue)+len(then.table)+len(then.control) > 0 || then.views != 0 || then.conf != next || then.members != [8]uint32{1, 3} {
		t.Errorf("then: %s", then)
	}
}

// P23.5: Wanted with none and some, whatever stood in Control; a roster with none
// and some.
func TestInstallWanted(t *testing.T) {
	conf := func(session uint64) sight { return sight{session: session, kind: confs, conf: next} }
	for _, c := range []struct {
		wanted []guest
		seats  []seat
		join   []slip
		see    []sight
	}{
		{nil, nil, nil, nil},
		{[]guest{{1, 2, 1}}, nil, []slip{in(1, 1)}, nil},
		{nil, []seat{{3, 9}}, nil, []sight{conf(3)}},
		{[]guest{{0, 2, 2}, {1, 2, 1}, {1, 2, 2}}, []seat{{1, 2}, {2, 0}, {7, 1}}, []slip{in(0, 2), in(1, 1), in(1, 2)}, []sight{conf(1), conf(2), conf(7)}},
		// To these no calls lead.
		{[]guest{{5, 2, 9}, {5, 2, 9}, {-1, 4, 1}}, []seat{{2, 0}, {1, 0}, {1, 0}}, []slip{in(5, 9), in(5, 9), in(-1, 1)}, []sight{conf(2), conf(1), conf(1)}},
	} {
		for _, control := range [][]slip{nil, {in(1, 1)}, {out(3, 1), in(5, 9), out(5, 9)}} {
			b := hall(guest{1, 2, 1}, guest{2, 2, 7})
			b.wanted, b.seats, b.control = c.wanted, c.seats, control
			b.waiting, b.turn, b.draws = filled(5, 1, 1), 1, []uint64{4}
			then, seen := agreeInstall(t, b, next, [8]uint32{0, 0, 9, 9})
			if !slices.Equal(seen, c.see) || !slices.Equal(then.control, c.join) {
				t.Errorf("%+v: seen: %v, Control: %v", c, seen, then.control)
			}
			// What is not named is as it was.
			then.control, then.table, then.conf, then.members, then.views = b.control, b.table, b.conf, b.members, b.views
			if !then.same(b) {
				t.Errorf("%+v: %s", c, then.unlike(b))
			}
		}
	}
}

// P23.5: in the next configuration views are counted, and tables made, anew.
func TestInstallThen(t *testing.T) {
	b := hall(guest{3, 0, 7}, guest{3, 2, 1})
	b.wanted = []guest{{3, 2, 1}}
	b, _ = agreeInstall(t, b, next, [8]uint32{1, 0, 9})
	_, sent := agreeEmit(t, b)
	b, seen := agreeTake(t, b, frame(2, 1, sent...), everything)
	if want := []sight{{session: 1, kind: views, number: 1, group: 3, conf: next, view: "2.1 "}}; !slices.Equal(seen, want) {
		t.Errorf("seen: %+v", seen)
	}
	// The same configuration again is installed like another one.
	_, seen = agreeInstall(t, b, next, b.members)
	if want := []sight{{session: 1, kind: confs, conf: next}, {session: 2, kind: confs, conf: next}}; !slices.Equal(seen, want) {
		t.Errorf("seen: %+v", seen)
	}
}
