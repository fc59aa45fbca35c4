package daemon_test

import (
	"fmt"
	"math/rand"
	"strings"
	"testing"

	"congress/api"
	"congress/core"
	"congress/daemon"
)

// kinds counts what is noted, by kind.
func kinds(came map[string]int, notes []api.Note) {
	for _, x := range notes {
		came[fmt.Sprintf("kind %d of tenant %d", x.Kind, x.Tenant)]++
	}
}

// shape tells what a core told: a letter for each happening.
func shape(told []api.Happen) string {
	var out strings.Builder
	for _, h := range told {
		out.WriteString(map[bool]string{true: "V", false: "f"}[h.View])
	}
	return out.String()
}

// enough asks that of each something came as often as is said.
func enough(t *testing.T, came, least map[string]int) {
	t.Helper()
	for what, n := range least {
		if came[what] < n {
			t.Errorf("%q came %d times", what, came[what])
		}
	}
}

// P24.2, P1, R1, R4: calls on daemons to which no calls lead, held against the
// account.
func TestDrawnCall(t *testing.T) {
	t.Parallel()
	r := rand.New(rand.NewSource(2420))
	came := map[string]int{}
	for range 6000 {
		d := drawnDaemon(r)
		tenant := drawnInt(r)
		var l api.Lane
		if tenant >= 0 && tenant < 3 {
			l = d.Lanes[tenant]
		}
		_, notes := agreeCall(t, d, tenant, drawnRequest(r, l))
		came["nobody's"] += 1 - len(notes)
		for _, x := range notes {
			came[fmt.Sprint("code ", x.Code)]++
		}
	}
	enough(t, came, map[string]int{"nobody's": 100, "code 0": 700, "code 160": 250, "code 163": 50, "code 164": 250, "code 210": 100})
}

// P24.1, P24.3: the same of ticks, and of what is sent next.
func TestDrawnTick(t *testing.T) {
	t.Parallel()
	r := rand.New(rand.NewSource(2431))
	came := map[string]int{}
	for range 6000 {
		d := drawnDaemon(r)
		next := agreeNext(t, d)
		_, sent, told := core.Tick(d.Core, next)
		_, notes := agreeTick(t, d)
		came[fmt.Sprintf("sent %v, told %q", sent, shape(told))]++
		kinds(came, notes)
	}
	enough(t, came, map[string]int{
		`sent false, told ""`: 1000, `sent true, told "f"`: 200, `sent false, told "V"`: 1, `sent true, told "Vf"`: 100,
		"kind 1 of tenant 0": 100, "kind 1 of tenant 2": 100, "kind 2 of tenant 0": 50, "kind 2 of tenant 2": 50, "kind 3 of tenant 0": 100, "kind 3 of tenant 2": 100,
	})
}

// P24.3: the same of packets.
func TestDrawnReceive(t *testing.T) {
	t.Parallel()
	r := rand.New(rand.NewSource(2432))
	came := map[string]int{}
	for range 6000 {
		d := drawnDaemon(r)
		p := drawnPacket(r, d.Core)
		_, ok, told := core.Receive(d.Core, p)
		_, notes := agreeReceive(t, d, p)
		came[fmt.Sprintf("heeded %v, told %q", ok, shape(told))]++
		kinds(came, notes)
	}
	enough(t, came, map[string]int{
		`heeded false, told ""`: 500, `heeded true, told ""`: 500, `heeded true, told "f"`: 250, `heeded true, told "ff"`: 100, `heeded true, told "fff"`: 10,
		`heeded true, told "V"`: 25, `heeded true, told "fV"`: 10, `heeded true, told "ffV"`: 5, `heeded true, told "fffV"`: 1,
		"kind 1 of tenant 0": 25, "kind 1 of tenant 2": 25, "kind 2 of tenant 0": 50, "kind 2 of tenant 2": 50, "kind 3 of tenant 0": 150, "kind 3 of tenant 2": 150,
	})
}

// R1: daemons, tenants and packets at any edges: each call ends, without a panic.
func TestOddEnds(t *testing.T) {
	t.Parallel()
	r := rand.New(rand.NewSource(2401))
	for _, self := range oddInts {
		for _, tenant := range oddInts {
			d := drawnDaemon(r)
			d.Self, d.Wait, d.Own = self, pick(r, oddInts), drawnRound(r)
			for i := range d.Lanes {
				d.Lanes[i].Tenant, d.Lanes[i].Daemon, d.Lanes[i].Used = pick(r, oddInts), pick(r, oddInts), pick(r, oddInts)
			}
			p := drawnPacket(r, d.Core)
			ends(t, "a call", func() {
				for _, s := range oddRequests {
					agreeCall(t, d, tenant, s)
				}
				agreeNext(t, d)
				agreeTick(t, d)
				agreeReceive(t, d, p)
				p.From, p.Inc, p.RelayOf = drawnRound(r), drawnRound(r), drawnRound(r)
				agreeReceive(t, d, p)
				d.Promise, d.Conf = d.Conf, d.Promise
				agreeTick(t, d)
				agreeReceive(t, d, p)
				daemon.Start(self, d.Own, d.Wait, [api.Tenants][]uint64{d.Lanes[0].Draws}, [api.Tenants]int{tenant})
			})
		}
	}
	ends(t, "a call of the zero daemon", func() {
		var d api.Daemon
		for tenant := range 4 {
			agreeCall(t, d, tenant, "open")
		}
		agreeNext(t, d)
		agreeTick(t, d)
		agreeReceive(t, d, api.Packet{From: 1, Inc: 1})
	})
}

// R1: long lists, however they came about.
func TestLongEnds(t *testing.T) {
	const n = 10000
	d := three(t)
	for tenant := range d.Lanes {
		l := &d.Lanes[tenant]
		for i := range n {
			l.Draws = append(l.Draws, uint64(i))
			l.Roster.List = append(l.Roster.List, api.Session{Id: uint64(i % 3000)})
			l.Rights = append(l.Rights, api.Right{Handle: uint64(i), Session: uint64(i % 5), Give: 7})
			l.Wanted = append(l.Wanted, api.Member{Group: i % 50, Session: uint64(i % 7)})
			l.Control = append(l.Control, join(uint64(i%5), i%60))
			l.Waiting = append(l.Waiting, says(i%5, "x"))
			l.Table = append(l.Table, api.Member{Group: i % 9, Daemon: i % 3, Session: uint64(i)})
			l.Audit = append(l.Audit, api.Record{Number: uint64(i)})
		}
		for i := range 100 {
			l.Queue = append(l.Queue, api.Wait{Place: api.Place{Round: uint32(i), From: 1}, Entry: says(i%4, "y")})
		}
	}
	for i := range n {
		d.Kept = append(d.Kept, api.Kept{From: i % 9, Round: uint32(i)})
	}
	ends(t, "a call of a long daemon", func() {
		for tenant := range 4 {
			for _, s := range []string{"open", "close 16", "join 16 7", "send 16 1 safe =x", strings.Repeat("open ", n)} {
				daemon.Call(d, tenant, s)
			}
		}
		agreeNext(t, d)
		agreeTick(t, d)
		p := mail(d)
		p.Newest, p.Relay = page([3][]api.Entry{{join(7, 1)}}), page([3][]api.Entry{nil, {says(api.SvcFifo, "z")}})
		agreeReceive(t, d, p)
	})
}
