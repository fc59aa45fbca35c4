package daemon_test

import (
	"fmt"
	"reflect"
	"slices"
	"strings"
	"testing"
	"time"

	"congress/api"
	"congress/daemon"
)

// roomy is a list in memory of its own, with room behind it in which something
// stands, so that writing there is seen.
func roomy[E any](l []E, room E) []E {
	out := append(slices.Clone(l), room, room, room)
	return out[:len(l)]
}

// loose is the daemon in memory of its own, in which each list has room behind it.
func loose(d api.Daemon) api.Daemon {
	entry := api.Entry{Kind: api.EntJoin, Service: api.SvcAgreed, Group: 1, Session: 1, Text: "room"}
	member := api.Member{Group: 1, Session: 1}
	d.Kept = roomy(d.Kept, api.Kept{From: 1, Round: 5})
	for tenant, l := range d.Lanes {
		l.Draws = roomy(l.Draws, 77)
		l.Roster.List = roomy(l.Roster.List, api.Session{Id: 1, Number: 7})
		l.Rights = roomy(l.Rights, api.Right{Handle: 77, Session: 1, Give: 7})
		l.Wanted = roomy(l.Wanted, member)
		l.Control = roomy(l.Control, entry)
		l.Waiting = roomy(l.Waiting, entry)
		l.Table = roomy(l.Table, member)
		l.Queue = roomy(l.Queue, api.Wait{Place: api.Place{Round: 1}, Entry: entry})
		l.Audit = roomy(l.Audit, api.Record{Number: 7, Tick: 7, Call: "room", Code: 7})
		d.Lanes[tenant] = l
	}
	return d
}

// whole is the daemon whose lists have what stands in the room behind them, too.
func whole(d api.Daemon) api.Daemon {
	d.Kept = d.Kept[:cap(d.Kept)]
	for tenant, l := range d.Lanes {
		l.Draws = l.Draws[:cap(l.Draws)]
		l.Roster.List = l.Roster.List[:cap(l.Roster.List)]
		l.Rights = l.Rights[:cap(l.Rights)]
		l.Wanted = l.Wanted[:cap(l.Wanted)]
		l.Control = l.Control[:cap(l.Control)]
		l.Waiting = l.Waiting[:cap(l.Waiting)]
		l.Table = l.Table[:cap(l.Table)]
		l.Queue = l.Queue[:cap(l.Queue)]
		l.Audit = l.Audit[:cap(l.Audit)]
		d.Lanes[tenant] = l
	}
	return d
}

// memory is where a list with the room behind it begins and ends. It holds the
// list, so that no later one gets its place.
type memory struct {
	from, to uintptr
	list     any
}

func memoryOf[E any](l []E) memory {
	v := reflect.ValueOf(l)
	return memory{v.Pointer(), v.Pointer() + uintptr(v.Cap())*v.Type().Elem().Size(), l}
}

// memories is that of all lists of a daemon.
func memories(d api.Daemon) []memory {
	lists := []memory{memoryOf(d.Kept)}
	for _, l := range d.Lanes {
		lists = append(lists,
			memoryOf(l.Draws), memoryOf(l.Roster.List), memoryOf(l.Rights), memoryOf(l.Wanted), memoryOf(l.Control),
			memoryOf(l.Waiting), memoryOf(l.Table), memoryOf(l.Queue), memoryOf(l.Audit))
	}
	return lists
}

// overlap tells whether two of some lists share memory.
func overlap(lists []memory) bool {
	lists = slices.DeleteFunc(lists, func(m memory) bool { return m.from == m.to })
	slices.SortFunc(lists, func(a, b memory) int {
		if a.from < b.from {
			return -1
		}
		return 1
	})
	for i := range lists[min(1, len(lists)):] {
		if lists[i].to > lists[i+1].from {
			return true
		}
	}
	return false
}

// agree asks that a call makes of a daemon, each time, what the account says, notes
// what the account says, leaves alone what it was given, and answers memory of its
// own.
func agree(t *testing.T, what string, d, want api.Daemon, notes []api.Note, call func(api.Daemon) (api.Daemon, []api.Note)) {
	t.Helper()
	given := loose(d)
	lists := memories(given)
	for range 2 {
		got, noted := call(given)
		if !sameDaemon(got, want) {
			t.Fatalf("%s of %s makes %s", what, short(d), unlikeDaemon(got, want))
		}
		if !slices.Equal(noted, notes) {
			t.Fatalf("%s of %s notes %s, not %s", what, short(d), short(noted), short(notes))
		}
		lists = append(lists, memories(got)...)
		lists = append(lists, memoryOf(noted))
	}
	if is, was := whole(given), whole(loose(d)); !sameDaemon(is, was) {
		t.Fatalf("%s: what was given became %s", what, unlikeDaemon(is, was))
	}
	if overlap(lists) {
		t.Fatalf("%s of %s shares memory", what, short(d))
	}
}

func agreeCall(t *testing.T, d api.Daemon, tenant int, s string) (api.Daemon, []api.Note) {
	t.Helper()
	want, notes := called(d, tenant, s)
	given := strings.Clone(s)
	agree(t, fmt.Sprintf("Call of %.200q by tenant %d", s, tenant), d, want, notes, func(d api.Daemon) (api.Daemon, []api.Note) {
		return daemon.Call(d, tenant, given)
	})
	if given != s {
		t.Fatalf("Call of %.200q made %.200q of it", s, given)
	}
	return want, notes
}

func agreeTick(t *testing.T, d api.Daemon) (api.Daemon, []api.Note) {
	t.Helper()
	want, notes := ticked(d)
	agree(t, "Tick", d, want, notes, daemon.Tick)
	return want, notes
}

func agreeReceive(t *testing.T, d api.Daemon, p api.Packet) (api.Daemon, []api.Note) {
	t.Helper()
	want, notes := received(d, p)
	agree(t, fmt.Sprintf("Receive of %s", short(p)), d, want, notes, func(d api.Daemon) (api.Daemon, []api.Note) {
		return daemon.Receive(d, p)
	})
	return want, notes
}

func agreeNext(t *testing.T, d api.Daemon) api.Frame {
	t.Helper()
	want, given := nextOf(d), loose(d)
	for range 2 {
		if got := daemon.Next(given); got != want {
			t.Fatalf("Next of %s is %v, not %v", short(d), got, want)
		}
	}
	if is, was := whole(given), whole(loose(d)); !sameDaemon(is, was) {
		t.Fatalf("Next: what was given became %s", unlikeDaemon(is, was))
	}
	return want
}

// started is a daemon that comes up, of the incarnation 1, which waits 3 ticks.
func started(t *testing.T, self int, draws ...[]uint64) api.Daemon {
	t.Helper()
	var all [api.Tenants][]uint64
	copy(all[:], draws)
	d, ok := daemon.Start(self, 1, 3, all, [api.Tenants]int{})
	if !ok {
		t.Fatalf("Start of %d is false", self)
	}
	return d
}

// asks lets a tenant's requests be done one by one, each of which is answered OK,
// and is the daemon then.
func asks(t *testing.T, d api.Daemon, tenant int, requests ...string) api.Daemon {
	t.Helper()
	for _, s := range requests {
		then, notes := agreeCall(t, d, tenant, s)
		if len(notes) != 1 || notes[0].Code != api.OK {
			t.Fatalf("%q of tenant %d: %+v", s, tenant, notes)
		}
		d = then
	}
	return d
}

// ticks lets a daemon tick as often, and tells what is noted all the while.
func ticks(t *testing.T, d api.Daemon, often int) (api.Daemon, []api.Note) {
	t.Helper()
	var all []api.Note
	for range often {
		then, notes := agreeTick(t, d)
		d, all = then, append(all, notes...)
	}
	return d, all
}

// brief tells what is noted shortly: by which tenant's session, and what of it.
func brief(notes []api.Note) []string {
	var l []string
	for _, x := range notes {
		who := fmt.Sprintf("%d.%d", x.Tenant, x.Session)
		switch x.Kind {
		case api.SeenAnswer:
			l = append(l, fmt.Sprintf("%s answer %d", who, x.Code))
		case api.SeenConf:
			l = append(l, fmt.Sprintf("%s conf %d", who, x.Conf.Epoch))
		case api.SeenView:
			l = append(l, fmt.Sprintf("%s view %d: %s", who, x.Group, strings.TrimSpace(x.View)))
		case api.SeenMessage:
			l = append(l, fmt.Sprintf("%s message %d.%d %s", who, x.From.Daemon, x.From.Session, x.Text))
		}
	}
	return l
}

// noted asks what is noted, told shortly.
func noted(t *testing.T, what string, notes []api.Note, want ...string) {
	t.Helper()
	if got := brief(notes); !slices.Equal(got, want) {
		t.Errorf("%s notes %q, not %q", what, got, want)
	}
}

// ends asks that a call ends, without a panic.
func ends(t *testing.T, name string, call func()) {
	t.Helper()
	done := make(chan any)
	go func() {
		defer func() { done <- recover() }()
		call()
	}()
	select {
	case what := <-done:
		if what != nil {
			t.Fatalf("%s: a panic: %v", name, what)
		}
	case <-time.After(time.Minute):
		t.Fatalf("%s does not end", name)
	}
}
