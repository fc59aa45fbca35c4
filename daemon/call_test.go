package daemon_test

import (
	"slices"
	"strings"
	"testing"

	"congress/api"
)

// P24.2: the answer is noted with the tenant, whose lane alone is changed.
func TestCall(t *testing.T) {
	for tenant := range 3 {
		d := started(t, 5, []uint64{10}, []uint64{11}, []uint64{12})
		then, notes := agreeCall(t, d, tenant, "open")
		want := []api.Note{{Tenant: tenant, Seen: api.Seen{Session: 1, Handle: uint64(10 + tenant), Number: 1}}}
		if !slices.Equal(notes, want) {
			t.Errorf("tenant %d: %+v", tenant, notes)
		}
		l := d.Lanes[tenant]
		l.Used, l.Roster = 1, api.Roster{Last: 1, List: []api.Session{{Id: 1}}}
		l.Rights = []api.Right{{Handle: uint64(10 + tenant), Session: 1, Give: api.GiveAll}}
		l.Audit = []api.Record{{Number: 1, Call: "open"}}
		d.Lanes[tenant] = l
		if !sameDaemon(then, d) {
			t.Errorf("tenant %d: %s", tenant, unlikeDaemon(then, d))
		}
	}
}

// P24.2: of a tenant that there is none of: nothing is changed, nothing noted.
func TestCallNobody(t *testing.T) {
	d := started(t, 0, []uint64{10})
	d = asks(t, d, 0, "open", "join 10 1")
	for _, tenant := range oddInts {
		if tenant >= 0 && tenant < 3 {
			continue
		}
		for _, s := range []string{"open", "join 10 2", "", "nothing"} {
			if then, notes := agreeCall(t, d, tenant, s); len(notes) > 0 || !sameDaemon(then, d) {
				t.Errorf("%q of tenant %d: %+v, %s", s, tenant, notes, unlikeDaemon(then, d))
			}
		}
	}
}

// P24.2: each kind of request, answered by each code; and each is a record.
func TestCallKinds(t *testing.T) {
	for tenant := range 3 {
		draws := make([][]uint64, 3)
		draws[tenant] = []uint64{9, 8, 7, 6}
		d := started(t, 2, draws...)
		asked := []struct {
			s    string
			want api.Seen
		}{
			{"join 9 1", api.Seen{Code: api.ErrRight}},
			{"open", api.Seen{Session: 1, Number: 1, Handle: 9}},
			{"open", api.Seen{Session: 2, Number: 2, Handle: 8}},
			{"mint 9 4", api.Seen{Session: 1, Handle: 7}},
			{"join 7 1", api.Seen{Code: api.ErrRight}},
			{"join 9 1", api.Seen{Session: 1, Group: 1}},
			{"join 9 1", api.Seen{Code: api.ErrGroup}},
			{"send 7 1 safe =hi there", api.Seen{Session: 1, Number: 1, Group: 1}},
			{"send 8 1 safe =hi", api.Seen{Code: api.ErrMember}},
			{"revoke 9 7", api.Seen{Session: 1}},
			{"send 7 1 safe =hi", api.Seen{Code: api.ErrRight}},
			{"leave 9 2", api.Seen{Code: api.ErrGroup}},
			{"leave 9 1", api.Seen{Session: 1, Group: 1}},
			{"close 9", api.Seen{Session: 1}},
			{"close 9", api.Seen{Code: api.ErrRight}},
			{"open it", api.Seen{Code: api.ErrParse}},
			{"", api.Seen{Code: api.ErrParse}},
			{"\x00\xff\n", api.Seen{Code: api.ErrParse}},
			{strings.Repeat("send ", 5000), api.Seen{Code: api.ErrParse}},
		}
		for i, c := range asked {
			then, notes := agreeCall(t, d, tenant, c.s)
			if !slices.Equal(notes, []api.Note{{Tenant: tenant, Seen: c.want}}) {
				t.Fatalf("tenant %d, %.40q: %+v", tenant, c.s, notes)
			}
			record := api.Record{Number: uint64(i) + 1, Call: c.s, Code: c.want.Code}
			if l := then.Lanes[tenant].Audit; len(l) != i+1 || l[i] != record {
				t.Fatalf("tenant %d, %.40q: the audit is %s", tenant, c.s, short(l))
			}
			d = then
		}
		for other := range 3 {
			if other != tenant && !sameLane(d.Lanes[other], started(t, 2).Lanes[other]) {
				t.Errorf("tenant %d's calls changed the lane of %d", tenant, other)
			}
		}
	}
}

// P24.2: a record's tick is the core's Now, which changes from tick to tick.
func TestCallNow(t *testing.T) {
	d := started(t, 0, []uint64{9})
	for now := range uint32(4) {
		d = asks(t, d, 0, "open")
		d, _ = agreeCall(t, d, 1, "nothing")
		for tenant := range 2 {
			if l := d.Lanes[tenant].Audit; len(l) != int(now)+1 || l[now].Tick != now {
				t.Errorf("at %d tenant %d's audit is %v", now, tenant, l)
			}
		}
		d, _ = ticks(t, d, 1)
	}
	d.Now = most32
	d, _ = agreeCall(t, d, 0, "close 9")
	d, _ = ticks(t, d, 1)
	d, _ = agreeCall(t, d, 0, "nothing")
	if l := d.Lanes[0].Audit; l[4].Tick != most32 || l[5].Tick != most32 {
		t.Errorf("at the end: %v", l)
	}
}

// P24.2: where lanes do not stand at their tenants' places, it is their places that
// count.
func TestCallPlaces(t *testing.T) {
	d := started(t, 0, []uint64{10}, []uint64{11}, []uint64{12})
	for _, odd := range oddInts {
		for tenant := range 3 {
			d.Lanes[tenant].Tenant = odd
			if _, notes := agreeCall(t, d, tenant, "open"); len(notes) != 1 || notes[0].Tenant != tenant || notes[0].Handle != uint64(10+tenant) {
				t.Errorf("lane of %d at %d: %+v", odd, tenant, notes)
			}
		}
	}
}
