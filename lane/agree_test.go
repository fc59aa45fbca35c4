package lane_test

import (
	"fmt"
	"reflect"
	"slices"
	"strings"
	"testing"
	"time"

	"congress/api"
	"congress/lane"
)

// entry is the program's form of a slip.
func (s slip) entry() api.Entry {
	return api.Entry{Kind: s.kind, Service: s.service, Group: s.group, Session: s.session, Number: s.number, Text: s.text}
}

func (i item) wait() api.Wait {
	return api.Wait{Place: api.Place{Round: i.round, From: i.from, Slot: i.slot}, Entry: i.entry()}
}

func (n name) id() api.Id { return api.Id{Epoch: n.epoch, Coord: n.coord, Inc: n.inc} }

func (g guest) member() api.Member {
	return api.Member{Group: g.group, Daemon: g.daemon, Session: g.session}
}

func (s seat) session() api.Session { return api.Session{Id: s.id, Number: s.number} }

func (k key) right() api.Right {
	return api.Right{Handle: k.handle, Session: k.session, Give: k.give, Revoked: k.gone}
}

func (n note) record() api.Record {
	return api.Record{Number: n.number, Tick: n.tick, Call: n.call, Code: api.Errno(n.code)}
}

func (p post) kept() api.Kept {
	x := api.Kept{From: p.from, Round: p.round}
	for tenant, slots := range p.slots {
		for i, s := range slots {
			x.Frame[tenant][i] = s.entry()
		}
	}
	return x
}

// The account's forms of what the program tells.
func slipOf(e api.Entry) slip {
	return slip{e.Kind, e.Service, e.Group, e.Session, e.Number, e.Text}
}

func itemOf(w api.Wait) item { return item{spot{w.Round, w.From, w.Slot}, slipOf(w.Entry)} }

func nameOf(id api.Id) name { return name{id.Epoch, id.Coord, id.Inc} }

func guestOf(m api.Member) guest { return guest{m.Group, m.Daemon, m.Session} }

func seatOf(s api.Session) seat { return seat{s.Id, s.Number} }

func keyOf(r api.Right) key { return key{r.Handle, r.Session, r.Give, r.Revoked} }

func noteOf(r api.Record) note { return note{r.Number, r.Tick, r.Call, int(r.Code)} }

func sightOf(s api.Seen) sight {
	return sight{s.Session, s.Kind, int(s.Code), s.Handle, s.Number, s.Group, nameOf(s.Conf), nameOf(s.Into), guestOf(s.From), s.Text, s.View}
}

func postOf(x api.Kept) post {
	p := post{from: x.From, round: x.Round}
	for tenant, slots := range x.Frame {
		for i, e := range slots {
			p.slots[tenant][i] = slipOf(e)
		}
	}
	return p
}

// each is the forms of a list's ones.
func each[E, F any](l []E, form func(E) F) []F {
	var out []F
	for _, x := range l {
		out = append(out, form(x))
	}
	return out
}

// roomy is the forms of a list's ones, with room behind them in which something
// stands, so that writing there is seen.
func roomy[E, F any](l []E, form func(E) F, room E) []F {
	out := make([]F, 0, len(l)+3)
	for _, x := range slices.Concat(l, []E{room, room, room}) {
		out = append(out, form(x))
	}
	return out[:len(l)]
}

func itself(n uint64) uint64 { return n }

var (
	roomGuest = guest{1, 0, 1}
	roomSlip  = slip{joins, agreed, 1, 1, 2, "room"}
)

// laneOf is the program's form of a box, in which each list has room behind it.
func laneOf(b box) api.Lane {
	return api.Lane{
		Tenant: b.tenant, Daemon: b.daemon,
		Draws: roomy(b.draws, itself, 77), Used: b.used,
		Roster:  api.Roster{Last: b.last, List: roomy(b.seats, seat.session, seat{1, 7})},
		Rights:  roomy(b.keys, key.right, key{77, 1, all, false}),
		Wanted:  roomy(b.wanted, guest.member, roomGuest),
		Control: roomy(b.control, slip.entry, roomSlip),
		Waiting: roomy(b.waiting, slip.entry, roomSlip),
		Turn:    b.turn,
		Table:   roomy(b.table, guest.member, roomGuest),
		Queue:   roomy(b.queue, item.wait, item{spot{1, 0, 0}, roomSlip}),
		Conf:    b.conf.id(), Members: b.members, Views: b.views,
		Audit: roomy(b.notes, note.record, note{7, 7, "room", 7}),
	}
}

// boxOf is the account's form of a lane.
func boxOf(l api.Lane) box {
	return box{
		tenant: l.Tenant, daemon: l.Daemon,
		draws: each(l.Draws, itself), used: l.Used,
		last: l.Roster.Last, seats: each(l.Roster.List, seatOf),
		keys:    each(l.Rights, keyOf),
		wanted:  each(l.Wanted, guestOf),
		control: each(l.Control, slipOf),
		waiting: each(l.Waiting, slipOf),
		turn:    l.Turn,
		table:   each(l.Table, guestOf),
		queue:   each(l.Queue, itemOf),
		conf:    nameOf(l.Conf), members: l.Members, views: l.Views,
		notes: each(l.Audit, noteOf),
	}
}

// whole is a lane whose lists have what stands in the room behind them, too.
func whole(l api.Lane) api.Lane {
	l.Draws = l.Draws[:cap(l.Draws)]
	l.Roster.List = l.Roster.List[:cap(l.Roster.List)]
	l.Rights = l.Rights[:cap(l.Rights)]
	l.Wanted = l.Wanted[:cap(l.Wanted)]
	l.Control = l.Control[:cap(l.Control)]
	l.Waiting = l.Waiting[:cap(l.Waiting)]
	l.Table = l.Table[:cap(l.Table)]
	l.Queue = l.Queue[:cap(l.Queue)]
	l.Audit = l.Audit[:cap(l.Audit)]
	return l
}

// memory is where a list with the room behind it begins and ends. It holds the
// list, so that no later one gets its place.
type memory struct {
	from, to uintptr
	list     any
}

func memoryOf[E any](l []E) memory {
	v := reflect.ValueOf(l)
	return memory{v.Pointer(), v.Pointer() + uintptr(v.Cap())*v.Type().Elem().Size(), l}
}

// memories is that of all lists of a lane.
func memories(l api.Lane) []memory {
	return []memory{
		memoryOf(l.Draws), memoryOf(l.Roster.List), memoryOf(l.Rights), memoryOf(l.Wanted), memoryOf(l.Control),
		memoryOf(l.Waiting), memoryOf(l.Table), memoryOf(l.Queue), memoryOf(l.Audit),
	}
}

// overlap tells whether two of some lists share memory.
func overlap(lists []memory) bool {
	lists = those(lists, func(m memory) bool { return m.from < m.to })
	slices.SortFunc(lists, func(a, b memory) int {
		if a.from < b.from {
			return -1
		}
		return 1
	})
	for i := range lists[min(1, len(lists)):] {
		if lists[i].to > lists[i+1].from {
			return true
		}
	}
	return false
}

// agree asks that a call makes of a lane, each time, what the account says, tells
// with it what the account says, leaves alone what it was given, and answers
// memory of its own.
func agree[E any, F comparable](t *testing.T, what string, b, want box, tell []F, form func(E) F, call func(api.Lane) (api.Lane, []E)) {
	t.Helper()
	given := laneOf(b)
	lists := memories(given)
	for range 2 {
		l, told := call(given)
		if got := boxOf(l); !got.same(want) {
			t.Fatalf("%s of %s makes %s", what, b, got.unlike(want))
		}
		if got := each(told, form); !slices.Equal(got, tell) {
			t.Fatalf("%s of %s tells %s, not %s", what, b, short(got), short(tell))
		}
		lists = append(lists, memories(l)...)
		lists = append(lists, memoryOf(told))
	}
	if got, was := boxOf(whole(given)), boxOf(whole(laneOf(b))); !got.same(was) {
		t.Fatalf("%s: what was given became %s", what, got.unlike(was))
	}
	if overlap(lists) {
		t.Fatalf("%s of %s shares memory", what, b)
	}
}

func agreeCall(t *testing.T, b box, tick uint32, s string) (box, sight) {
	t.Helper()
	want, seen := b.asked(tick, s)
	given := strings.Clone(s)
	agree(t, fmt.Sprintf("Call of %.200q at %d", s, tick), b, want, []sight{seen}, sightOf, func(l api.Lane) (api.Lane, []api.Seen) {
		l, x := lane.Call(l, tick, given)
		return l, []api.Seen{x}
	})
	if given != s {
		t.Fatalf("Call of %.200q made %.200q of it", s, given)
	}
	return want, seen
}

func agreeEmit(t *testing.T, b box) (box, []slip) {
	t.Helper()
	want, sent := b.emitted()
	agree(t, "Emit", b, want, sent, slipOf, lane.Emit)
	return want, sent
}

func agreeTake(t *testing.T, b box, p post, counts [8]uint32) (box, []sight) {
	t.Helper()
	want, seen := b.took(p, counts)
	given := p.kept()
	agree(t, fmt.Sprintf("Take of %+v by %v", p, counts), b, want, seen, sightOf, func(l api.Lane) (api.Lane, []api.Seen) {
		return lane.Take(l, given, counts)
	})
	if postOf(given) != p {
		t.Fatalf("Take of %+v made %+v of it", p, given)
	}
	return want, seen
}

func agreeInstall(t *testing.T, b box, conf name, members [8]uint32) (box, []sight) {
	t.Helper()
	want, seen := b.installed(conf, members)
	agree(t, fmt.Sprintf("Install of %v, %v", conf, members), b, want, seen, sightOf, func(l api.Lane) (api.Lane, []api.Seen) {
		return lane.Install(l, conf.id(), members)
	})
	return want, seen
}

// asks lets requests be done one by one, each with the code that is told behind
// it, and is the box then.
func asks(t *testing.T, b box, requests ...any) box {
	t.Helper()
	for i := 0; i < len(requests); i += 2 {
		then, seen := agreeCall(t, b, 5, requests[i].(string))
		if seen.code != requests[i+1] {
			t.Fatalf("%q of %s: %+v, not %d", requests[i], b, seen, requests[i+1])
		}
		b = then
	}
	return b
}

// ends asks that a call ends, without a panic.
func ends(t *testing.T, name string, call func()) {
	t.Helper()
	done := make(chan any)
	go func() {
		defer func() { done <- recover() }()
		call()
	}()
	select {
	case what := <-done:
		if what != nil {
			t.Fatalf("%s: a panic: %v", name, what)
		}
	case <-time.After(time.Minute):
		t.Fatalf("%s does not end", name)
	}
}
