package daemon_test

import (
	"fmt"
	"math"
	"reflect"
	"slices"
	"strings"

	"congress/api"
	"congress/core"
	"congress/frame"
	"congress/lane"
)

const most32 = math.MaxUint32

// An account of the calls: what a core and a lane do is what their own calls say,
// as the promises have it; to which lanes what comes, with which counts, and in
// which order it is noted, is worked out here, tenant by tenant.

// nextOf is the account of Next.
func nextOf(d api.Daemon) api.Frame {
	var f api.Frame
	for tenant := range 3 {
		_, sent := lane.Emit(d.Lanes[tenant])
		f = frame.With(f, tenant, sent)
	}
	return f
}

// called is the account of Call.
func called(d api.Daemon, tenant int, s string) (api.Daemon, []api.Note) {
	for known := range 3 {
		if tenant == known {
			l, seen := lane.Call(d.Lanes[known], d.Core.Beat.Now, s)
			d.Lanes[known] = l
			return d, []api.Note{{Tenant: known, Seen: seen}}
		}
	}
	return d, nil
}

// ticked is the account of Tick.
func ticked(d api.Daemon) (api.Daemon, []api.Note) {
	c, sent, told := core.Tick(d.Core, nextOf(d))
	for tenant := range 3 {
		if sent {
			d.Lanes[tenant], _ = lane.Emit(d.Lanes[tenant])
		}
	}
	return passed(d, c, told)
}

// received is the account of Receive.
func received(d api.Daemon, p api.Packet) (api.Daemon, []api.Note) {
	c, _, told := core.Receive(d.Core, p)
	return passed(d, c, told)
}

// passed is the account of what a core tells: what is seen of each happening by
// each tenant's sessions, and then all of it in order.
func passed(d api.Daemon, c api.Core, told []api.Happen) (api.Daemon, []api.Note) {
	seen := make([][3][]api.Seen, len(told))
	for tenant := range 3 {
		l := d.Lanes[tenant]
		for i, h := range told {
			if h.View {
				l, seen[i][tenant] = lane.Install(l, h.Conf, h.Members)
			} else {
				l, seen[i][tenant] = lane.Take(l, h.Kept, countsBehind(d.Core.Count, told[:i+1]))
			}
		}
		d.Lanes[tenant] = l
	}
	var notes []api.Note
	for _, all := range seen {
		for tenant, some := range all {
			for _, x := range some {
				notes = append(notes, api.Note{Tenant: tenant, Seen: x})
			}
		}
	}
	d.Core = c
	return d, notes
}

// countsBehind is how many frames there were of each daemon behind some
// happenings, from counts on.
func countsBehind(counts api.Counts, told []api.Happen) api.Counts {
	for i, h := range told {
		if h.View {
			return countsBehind(api.Counts{}, told[i+1:])
		}
	}
	for daemon := range counts {
		for _, h := range told {
			if h.From == daemon {
				counts[daemon]++
			}
		}
	}
	return counts
}

// sameCore tells whether two cores are the same; an empty list is as none.
func sameCore(a, b api.Core) bool {
	if !slices.Equal(a.Kept, b.Kept) {
		return false
	}
	a.Kept, b.Kept = nil, nil
	return reflect.DeepEqual(a, b)
}

// sameLane tells whether two lanes are the same.
func sameLane(a, b api.Lane) bool {
	return slices.Equal(a.Draws, b.Draws) && slices.Equal(a.Roster.List, b.Roster.List) && slices.Equal(a.Rights, b.Rights) &&
		slices.Equal(a.Wanted, b.Wanted) && slices.Equal(a.Control, b.Control) && slices.Equal(a.Waiting, b.Waiting) &&
		slices.Equal(a.Table, b.Table) && slices.Equal(a.Queue, b.Queue) && slices.Equal(a.Audit, b.Audit) &&
		reflect.DeepEqual(bare(a), bare(b))
}

// sameDaemon tells whether two daemons are the same.
func sameDaemon(a, b api.Daemon) bool {
	return sameCore(a.Core, b.Core) && sameLane(a.Lanes[0], b.Lanes[0]) && sameLane(a.Lanes[1], b.Lanes[1]) && sameLane(a.Lanes[2], b.Lanes[2])
}

// unlike tells in what two lanes are; an empty list is as none.
func unlike(a, b api.Lane) string {
	var out strings.Builder
	x, y := reflect.ValueOf(a), reflect.ValueOf(b)
	for i := range x.NumField() {
		if p, q := fmt.Sprintf("%+v", x.Field(i)), fmt.Sprintf("%+v", y.Field(i)); p != q {
			fmt.Fprintf(&out, "%s: %.900s, not %.900s; ", x.Type().Field(i).Name, p, q)
		}
	}
	return out.String()
}

// bare is a lane without its lists.
func bare(l api.Lane) api.Lane {
	return api.Lane{
		Tenant: l.Tenant, Daemon: l.Daemon, Used: l.Used, Roster: api.Roster{Last: l.Roster.Last},
		Turn: l.Turn, Conf: l.Conf, Members: l.Members, Views: l.Views,
	}
}

// unlikeDaemon tells in what two daemons are.
func unlikeDaemon(a, b api.Daemon) string {
	var out strings.Builder
	if !sameCore(a.Core, b.Core) {
		fmt.Fprintf(&out, "core: %s, not %s; ", short(a.Core), short(b.Core))
	}
	for tenant := range 3 {
		if s := unlike(a.Lanes[tenant], b.Lanes[tenant]); s != "" {
			fmt.Fprintf(&out, "lane %d: %s", tenant, s)
		}
	}
	return out.String()
}

// short tells the beginning of something.
func short(v any) string { return fmt.Sprintf("%.900s", fmt.Sprintf("%+v", v)) }
