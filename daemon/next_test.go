package daemon_test

import (
	"fmt"
	"testing"

	"congress/api"
)

func join(session uint64, group int) api.Entry {
	return api.Entry{Kind: api.EntJoin, Service: api.SvcAgreed, Group: group, Session: session}
}

func leave(session uint64, group int) api.Entry {
	return api.Entry{Kind: api.EntLeave, Service: api.SvcAgreed, Group: group, Session: session}
}

func message(service int, session, number uint64, group int, text string) api.Entry {
	return api.Entry{Kind: api.EntSend, Service: service, Group: group, Session: session, Number: number, Text: text}
}

// page is a frame with the first entries of each tenant's lane.
func page(lanes [3][]api.Entry) api.Frame {
	var f api.Frame
	for tenant, l := range lanes {
		copy(f[tenant][:], l)
	}
	return f
}

// P24.1: Next is what each tenant's lane sends next, in its place, of none, of some
// and of all tenants.
func TestNext(t *testing.T) {
	for some := range 8 {
		d := started(t, 0, []uint64{10}, []uint64{11}, []uint64{12})
		var want [3][]api.Entry
		for tenant := range 3 {
			if some>>tenant&1 == 1 {
				d = asks(t, d, tenant, "open", fmt.Sprintf("join %d %d", 10+tenant, tenant+2))
				want[tenant] = []api.Entry{join(1, tenant+2)}
			}
		}
		if got := agreeNext(t, d); got != page(want) {
			t.Errorf("%b: %v", some, got)
		}
	}
}

// P24.1: joins and leaves are ahead of messages, two slots of each tenant, of the
// sessions by turns.
func TestNextSlots(t *testing.T) {
	d := started(t, 0, []uint64{10, 20}, nil, []uint64{12})
	d = asks(t, d, 0, "open", "open", "join 10 1", "send 10 1 fifo =a", "send 10 1 safe =b", "join 20 2")
	d = asks(t, d, 2, "open", "join 12 7")
	if got, want := agreeNext(t, d), page([3][]api.Entry{{join(1, 1), join(2, 2)}, nil, {join(1, 7)}}); got != want {
		t.Errorf("is %v", got)
	}
	d, _ = ticks(t, d, 1)
	d = asks(t, d, 0, "send 20 2 causal =c", "send 10 1 agreed =d")
	if got, want := agreeNext(t, d), page([3][]api.Entry{{message(api.SvcFifo, 1, 1, 1, "a"), message(api.SvcCausal, 2, 1, 2, "c")}}); got != want {
		t.Errorf("is %v", got)
	}
	d, _ = ticks(t, d, 1)
	d = asks(t, d, 0, "leave 20 2")
	if got, want := agreeNext(t, d), page([3][]api.Entry{{leave(2, 2), message(api.SvcSafe, 1, 2, 1, "b")}}); got != want {
		t.Errorf("is %v", got)
	}
}

// P24.1: where lanes do not stand at their tenants' places, it is their places that
// count.
func TestNextPlaces(t *testing.T) {
	d := started(t, 0, []uint64{10}, []uint64{11})
	d = asks(t, d, 0, "open", "join 10 1")
	d = asks(t, d, 1, "open", "join 11 2")
	for _, tenant := range oddInts {
		d.Lanes[0].Tenant, d.Lanes[1].Tenant = tenant, 0
		if got := agreeNext(t, d); got != page([3][]api.Entry{{join(1, 1)}, {join(1, 2)}}) {
			t.Errorf("tenant %d: %v", tenant, got)
		}
	}
	d.Lanes = [3]api.Lane{d.Lanes[2], d.Lanes[0], d.Lanes[1]}
	if got := agreeNext(t, d); got != page([3][]api.Entry{nil, {join(1, 1)}, {join(1, 2)}}) {
		t.Errorf("turned round: %v", got)
	}
}
