package lane_test

import (
	"slices"
	"testing"
)

// everything are counts by which all of the first rounds is ready.
var everything = [8]uint32{100, 100, 100, 100, 100, 100, 100, 100}

// hall is a box of tenant 1 at daemon 2 of three members, with the open sessions 1
// and 2, in a configuration of its own.
func hall(table ...guest) box {
	return box{
		tenant: 1, daemon: 2, conf: name{4, 1, 6}, members: [8]uint32{1, 3, 9}, views: 5,
		seats: []seat{{1, 0}, {2, 0}}, last: 2, table: table,
	}
}

// frame is one of tenant 1's lane.
func frame(from int, round uint32, slips ...slip) post {
	p := post{from: from, round: round}
	copy(p.slots[1][:], slips)
	return p
}

// shown asks that a frame that is taken, with counts by which all is ready, shows
// these, and tells the box then.
func shown(t *testing.T, b box, p post, want ...sight) box {
	t.Helper()
	then, seen := agreeTake(t, b, p, everything)
	if !slices.Equal(seen, want) {
		t.Fatalf("%+v of %s shows\n%+v, not\n%+v", p, b, seen, want)
	}
	return then
}

// P23.4: a view is seen by those of this daemon who are in it, whose sessions are
// open, in the order of the view; each has the whole of it.
func TestTakeViews(t *testing.T) {
	b := hall()
	at := func(session, number uint64, view string) sight {
		return sight{session: session, kind: views, number: number, group: 3, conf: b.conf, view: view}
	}
	b = shown(t, b, frame(2, 1, in(3, 1)), at(1, 6, "2.1 "))
	b = shown(t, b, frame(0, 1, in(3, 7)), at(1, 7, "0.7 2.1 "))
	b = shown(t, b, frame(1, 1, in(3, 2), in(3, 1)), at(1, 8, "0.7 1.2 2.1 "), at(1, 9, "0.7 1.1 1.2 2.1 "))
	// A session that is not open is in the view, but sees nothing.
	b = shown(t, b, frame(2, 2, in(3, 65535), in(3, 2)), at(1, 10, "0.7 1.1 1.2 2.1 2.65535 "),
		at(1, 11, "0.7 1.1 1.2 2.1 2.2 2.65535 "), at(2, 11, "0.7 1.1 1.2 2.1 2.2 2.65535 "))
	// Who goes does not see it; the others do.
	b = shown(t, b, frame(2, 3, out(3, 1)), at(2, 12, "0.7 1.1 1.2 2.2 2.65535 "))
	b = shown(t, b, frame(1, 2, out(3, 1)), at(2, 13, "0.7 1.2 2.2 2.65535 "))
	b = shown(t, b, frame(2, 4, out(3, 2)))
	if b.views != 14 || len(b.table) != 3 {
		t.Errorf("%d views, %v", b.views, b.table)
	}
}

// P23.4: what changes nothing is seen by nobody, and is no view.
func TestTakeUnchanged(t *testing.T) {
	b := hall(guest{3, 0, 7}, guest{3, 2, 1})
	for _, p := range []post{
		frame(2, 1, in(3, 1)), frame(0, 1, in(3, 7)), frame(2, 1, out(3, 2)), frame(1, 1, out(3, 1)), frame(2, 1, out(4, 1)),
		frame(2, 1, in(8, 1)), frame(2, 1, in(-1, 1)), frame(2, 1, in(3, 65536)), frame(2, 1, out(8, 1)), frame(2, 1), {from: 2, round: 1},
		frame(2, 1, slip{kind: nothing, group: 3, session: 1, text: "x"}), frame(2, 1, slip{kind: 4, group: 3, session: 1}),
		frame(2, 1, slip{kind: -1, group: 3, session: 1}), frame(2, 1, slip{kind: mostInt, group: 3, session: 2}),
	} {
		then := shown(t, b, p)
		if !then.same(b) {
			t.Errorf("%+v: %s", p, then.unlike(b))
		}
	}
}

// P23.4: a message is seen by those of this daemon who are in the group, whose
// sessions are open, its sender among them if it is.
func TestTakeMessages(t *testing.T) {
	of := func(b box, session uint64, from int, s slip) sight {
		return sight{session: session, kind: messages, number: s.number, group: s.group, conf: b.conf, from: guest{s.group, from, s.session}, text: s.text}
	}
	say := slip{sends, agreed, 3, 1, 8, "hi"}
	for _, c := range []struct {
		table []guest
		see   []uint64
	}{
		{nil, nil},
		{[]guest{{3, 2, 1}}, []uint64{1}},
		{[]guest{{3, 2, 2}}, []uint64{2}},
		{[]guest{{3, 2, 1}, {3, 2, 2}}, []uint64{1, 2}},
		{[]guest{{3, 0, 1}, {3, 1, 2}}, nil},
		{[]guest{{3, 0, 1}, {3, 2, 2}, {3, 2, 3}, {3, 3, 1}}, []uint64{2}},
		{[]guest{{2, 2, 1}, {4, 2, 2}}, nil},
		{[]guest{{2, 2, 1}, {3, 2, 2}, {4, 2, 1}}, []uint64{2}},
	} {
		for from := range 3 {
			b := hall(c.table...)
			var want []sight
			for _, session := range c.see {
				want = append(want, of(b, session, from, say))
			}
			if then := shown(t, b, frame(from, 1, say), want...); !then.same(b) {
				t.Errorf("%v: %s", c.table, then.unlike(b))
			}
		}
	}
	// Of a group that there is none of: who stands there sees it.
	b := hall(guest{99, 2, 2})
	say.group = 99
	shown(t, b, frame(0, 1, say), of(b, 2, 0, say))
	// A table out of order: in the order in which they stand, as often.
	b = hall(guest{3, 2, 2}, guest{3, 1, 1}, guest{3, 2, 1}, guest{3, 2, 2})
	say.group = 3
	shown(t, b, frame(1, 1, say), of(b, 2, 1, say), of(b, 1, 1, say), of(b, 2, 1, say))
}

// P23.4: a frame's two slots, one behind the other: a join and a message, a message
// and a leave.
func TestTakeBoth(t *testing.T) {
	b := hall()
	say := slip{sends, agreed, 3, 1, 8, "hi"}
	message := sight{session: 1, kind: messages, number: 8, group: 3, conf: b.conf, from: guest{3, 2, 1}, text: "hi"}
	view := sight{session: 1, kind: views, number: 6, group: 3, conf: b.conf, view: "2.1 "}
	joined := shown(t, b, frame(2, 1, in(3, 1), say), view, message)
	shown(t, b, frame(2, 1, say, in(3, 1)), view)
	shown(t, joined, frame(2, 2, say, out(3, 1)), message)
	shown(t, joined, frame(2, 2, out(3, 1), say))
	// By fifo it comes ahead of what is ordered and not ready yet.
	say.service = fifo
	then, seen := agreeTake(t, joined, frame(2, 2, out(3, 1), say), [8]uint32{0, 0, 2})
	if !slices.Equal(seen, []sight{message}) || len(then.queue) != 1 {
		t.Errorf("seen: %v, waits: %v", seen, then.queue)
	}
}

// P23.4: other tenants' lanes are nothing to it, and no tenant has none.
func TestTakeTenant(t *testing.T) {
	p := post{from: 2, round: 1}
	for tenant := range p.slots {
		p.slots[tenant] = [2]slip{in(tenant, 1), {sends, fifo, tenant, 1, 1, "x"}}
	}
	for _, tenant := range oddInts {
		b := hall()
		b.tenant = tenant
		then, seen := agreeTake(t, b, p, everything)
		if tenant < 0 || tenant > 2 {
			if !then.same(b) || len(seen) > 0 {
				t.Errorf("tenant %d: %v, %s", tenant, seen, then.unlike(b))
			}
		} else if len(seen) != 2 || seen[0].group != tenant || seen[1].from.group != tenant || len(then.table) != 1 {
			t.Errorf("tenant %d: %v, %v", tenant, seen, then.table)
		}
	}
}

// P23.4: counts by which nothing, some and all is ready, of what comes and of what
// waited; the rest waits for a later frame.
func TestTakeCounts(t *testing.T) {
	b := hall(guest{3, 2, 1})
	say := func(service int, text string) slip { return slip{sends, service, 3, 2, uint64(len(text)), text} }
	p := frame(1, 1, say(safe, "s"), say(agreed, "ag"))
	told := func(seen []sight) (l []string) {
		for _, s := range seen {
			l = append(l, s.text+s.view)
		}
		return l
	}
	for _, c := range []struct {
		counts [8]uint32
		told   []string
		wait   int
	}{
		{[8]uint32{}, nil, 2},
		{[8]uint32{0, 1, 0}, nil, 2},
		{[8]uint32{1, 1, 1}, nil, 2},
		{[8]uint32{2, 2, 1}, nil, 2},
		{[8]uint32{2, 2, 2}, []string{"s", "ag"}, 0},
	} {
		then, seen := agreeTake(t, b, p, c.counts)
		if !slices.Equal(told(seen), c.told) || len(then.queue) != c.wait {
			t.Errorf("%v: %v, %v wait", c.counts, told(seen), then.queue)
		}
		// What waits comes with the next frame, of whomever, as it is ready then.
		then, seen = agreeTake(t, then, frame(0, 2, say(causal, "ca"), in(3, 4)), [8]uint32{2, 2, 2})
		if want := slices.Concat([]string{"s", "ag"}[2-c.wait:], []string{"ca", "0.4 2.1 "}); !slices.Equal(told(seen), want) || len(then.queue) > 0 {
			t.Errorf("%v: %v, %v wait", c.counts, told(seen), then.queue)
		}
	}
	// Safe ones of that round wait on.
	then, seen := agreeTake(t, b, frame(0, 2, say(causal, "ca"), say(safe, "sf")), [8]uint32{2, 2, 2})
	if !slices.Equal(told(seen), []string{"ca"}) || len(then.queue) != 1 || then.queue[0].spot != (spot{2, 0, 1}) {
		t.Errorf("%v, %v wait", told(seen), then.queue)
	}
	// Who is no member's frame waits, whatever the counts are.
	then, seen = agreeTake(t, b, frame(3, 1, say(fifo, "f")), everything)
	if len(seen) > 0 || len(then.queue) != 1 {
		t.Errorf("no member: %v, %v wait", told(seen), then.queue)
	}
	// What waits is not laid there twice.
	if again, seen := agreeTake(t, then, frame(3, 1, say(fifo, "g")), everything); len(seen) > 0 || !again.same(then) {
		t.Errorf("the same place again: %v, %s", told(seen), again.unlike(then))
	}
}

// P23.4: places are numbered by what stands in the frame's lane, without what is
// nothing.
func TestTakePlaces(t *testing.T) {
	say := slip{sends, safe, 3, 1, 1, "x"}
	then, _ := agreeTake(t, hall(), frame(1, 4, slip{}, say), [8]uint32{})
	if want := []item{{spot{4, 1, 0}, say}}; !slices.Equal(then.queue, want) {
		t.Errorf("waits: %v", then.queue)
	}
}

// P23.4: frames of daemons that there are none of, kinds and services that there
// are none of.
func TestTakeWrong(t *testing.T) {
	b := hall(guest{3, 2, 1})
	for _, n := range oddInts {
		p := frame(n, 1, slip{sends, fifo, 3, 1, 1, "x"}, in(3, 2))
		then, seen := agreeTake(t, b, p, everything)
		if is := n >= 0 && n < 3; is != (len(seen) > 0) || is == (len(then.queue) > 0) {
			t.Errorf("of daemon %d: %v, %v wait", n, seen, then.queue)
		}
		p = frame(1, 1, slip{n, agreed, 3, 2, 1, "x"})
		then, seen = agreeTake(t, b, p, everything)
		if is := n == sends || n == joins; is != (len(seen) > 0) || len(then.queue) > 0 {
			t.Errorf("of kind %d: %v, %v wait", n, seen, then.queue)
		}
		p = frame(1, 1, slip{sends, n, 3, 1, 1, "x"})
		then, seen = agreeTake(t, b, p, everything)
		if is := n >= 0 && n < 4; is != (len(seen) > 0) || is == (len(then.queue) > 0) {
			t.Errorf("of service %d: %v, %v wait", n, seen, then.queue)
		}
		b := b
		b.daemon = n
		agreeTake(t, b, frame(1, 1, slip{sends, fifo, 3, 1, 1, "x"}), everything)
	}
	// The greatest Views: one more is 0.
	b.views = most
	then, seen := agreeTake(t, b, frame(1, 1, in(3, 2)), everything)
	if len(seen) != 1 || seen[0].number != 0 || then.views != 0 {
		t.Errorf("%v, %d views", seen, then.views)
	}
}
