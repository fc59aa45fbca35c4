package round_test

import (
	"math"
	"math/rand"
	"slices"
	"testing"

	"congress/api"
	"congress/round"
)

const most32 = math.MaxUint32

// strangers are numbers of no daemon.
var strangers = []int{-1, 8, 9, math.MinInt, math.MaxInt, 1 << 32, -1 << 32}

// noServices are numbers of no service.
var noServices = []int{-1, 4, 5, math.MinInt, math.MaxInt, 1 << 32, 1<<32 + 2}

// services are the four services, each implied by the one behind it.
var services = []int{api.SvcFifo, api.SvcCausal, api.SvcAgreed, api.SvcSafe}

// account is what a daemon has received in a configuration, told without the
// program's packages: who the members are, rising, and the last round of each
// one of which a frame came. Rounds stand in numbers that do not wrap.
type account struct {
	members []int
	last    [8]int64
}

// tell is the account of counts and members.
func tell(c [8]uint32, m [8]uint32) account {
	var a account
	for daemon := range 8 {
		if m[daemon] > 0 {
			a.members = append(a.members, daemon)
			a.last[daemon] = int64(c[daemon])
		}
	}
	return a
}

// has tells whether a member's frame of a round came.
func (a account) has(from int, r int64) bool {
	return slices.Contains(a.members, from) && r >= 1 && r <= a.last[from]
}

// full tells whether each member's frame of a round came; nobody sends any in
// the round 0.
func (a account) full(r int64) bool {
	for _, daemon := range a.members {
		if r > 0 && !a.has(daemon, r) {
			return false
		}
	}
	return true
}

// may tells whether what a member sent in a round may be delivered.
func (a account) may(r int64, from int, service int) bool {
	if !a.has(from, r) {
		return false
	}
	switch service {
	case 0:
		return true
	case 1:
		return a.full(r - 1)
	case 2:
		for _, daemon := range a.members {
			if daemon < from && !a.has(daemon, r) {
				return false
			}
		}
		return a.full(r - 1)
	case 3:
		return a.full(r + 1)
	}
	return false
}

// lowest is the last full round: the first of the members' last rounds, sorted.
func (a account) lowest() (int64, bool) {
	var l []int64
	for _, daemon := range a.members {
		l = append(l, a.last[daemon])
	}
	slices.Sort(l)
	if len(l) == 0 {
		return 0, false
	}
	return l[0], true
}

// lacking is the round and the member of the first frame that did not come.
func (a account) lacking() (int64, int) {
	lowest, ok := a.lowest()
	for r := max(lowest-1, 1); ok; r++ {
		for _, daemon := range a.members {
			if !a.has(daemon, r) {
				return min(r, most32), daemon
			}
		}
	}
	return 0, 0
}

// agree holds all calls but Before against the account, at these rounds.
func agree(t *testing.T, c api.Counts, m api.Members, rounds []uint32) {
	t.Helper()
	a, c0, m0 := tell(c, m), c, m
	lowest, ok := a.lowest()
	if got, is := round.Least(c, m); int64(got) != lowest || is != ok {
		t.Fatalf("Least(%v, %v) is %d, %v", c, m, got, is)
	}
	r, from := a.lacking()
	if got, want := round.Position(c, m), (api.Place{Round: uint32(r), From: from}); got != want {
		t.Fatalf("Position(%v, %v) is %v, not %v", c, m, got, want)
	}
	for daemon := -1; daemon < 9; daemon++ {
		want := slices.Contains(a.members, daemon) && a.last[daemon] == lowest
		if got := round.May(c, m, daemon); got != want {
			t.Fatalf("May(%v, %v, %d) is %v", c, m, daemon, got)
		}
		for _, r := range rounds {
			agreeAt(t, a, c, m, r, daemon)
		}
	}
	if c != c0 || m != m0 {
		t.Fatalf("%v and %v became %v and %v", c0, m0, c, m)
	}
}

// agreeAt holds each service at the slots of one frame against the account.
func agreeAt(t *testing.T, a account, c api.Counts, m api.Members, r uint32, from int) {
	t.Helper()
	for slot := range api.Slots {
		p := api.Place{Round: r, From: from, Slot: slot}
		for service := -1; service < 5; service++ {
			want := a.may(int64(r), from, service)
			if got := round.Service(c, m, p, service); got != want {
				t.Fatalf("Service(%v, %v, %v, %d) is %v", c, m, p, service, got)
			}
		}
	}
}

// crowd is the members whom a choice, a bit for each daemon, tells.
func crowd(choice int) api.Members {
	incs := api.Members{1, most32, 2, 1 << 31, 1, 7, 256, most32 - 1}
	var m api.Members
	for i := range m {
		if choice>>i&1 == 1 {
			m[i] = incs[i]
		}
	}
	return m
}

// crowds are members with none, with each one alone, with some, and with all.
func crowds() []api.Members {
	var l []api.Members
	for _, choice := range []int{0, 1, 2, 8, 64, 128, 129, 3, 7, 192, 42, 85, 126, 127, 254, 255} {
		l = append(l, crowd(choice))
	}
	return l
}

// P9.1, P9.2, P9.3: the chapter's example.
func TestExample(t *testing.T) {
	m, c := api.Members{1, 1, 1}, api.Counts{2, 1, 1}
	if got, ok := round.Least(c, m); got != 1 || !ok {
		t.Errorf("Least is %d, %v", got, ok)
	}
	for service, want := range []bool{true, true, true, false} {
		if got := round.Service(c, m, api.Place{Round: 2}, service); got != want {
			t.Errorf("frame 2 of daemon 0, service %d: %v", service, got)
		}
	}
	if got := round.Position(c, m); got != (api.Place{Round: 2, From: 1}) {
		t.Errorf("Position is %v", got)
	}
	for daemon := range 3 {
		p := api.Place{Round: 1, From: daemon}
		if round.Service(c, m, p, api.SvcSafe) {
			t.Errorf("counts %v: %v is safe", c, p)
		}
		if !round.Service(api.Counts{2, 2, 2}, m, p, api.SvcSafe) {
			t.Errorf("counts 2 2 2: %v is not safe", p)
		}
	}
}

// P9.1: the least count of members alone, wherever it stands.
func TestLeast(t *testing.T) {
	for _, c := range []struct {
		name string
		c    api.Counts
		m    api.Members
		want uint32
		ok   bool
	}{
		{"no member", api.Counts{3, 3, 3, 3, 3, 3, 3, 3}, api.Members{}, 0, false},
		{"no member, no count", api.Counts{}, api.Members{}, 0, false},
		{"daemon 0 alone", api.Counts{5, 1, 1, 1, 1, 1, 1, 1}, api.Members{9}, 5, true},
		{"daemon 7 alone", api.Counts{1, 1, 1, 1, 1, 1, 1, 5}, api.Members{7: 9}, 5, true},
		{"daemon 7 alone, with none", api.Counts{1, 1, 1, 1, 1, 1, 1, 0}, api.Members{7: 9}, 0, true},
		{"the first is the least", api.Counts{4, 5, 6, 7, 8, 9, 10, 11}, crowd(255), 4, true},
		{"the last is the least", api.Counts{11, 10, 9, 8, 7, 6, 5, 4}, crowd(255), 4, true},
		{"a middle one is the least", api.Counts{9, 9, 9, 8, 9, 9, 9, 9}, crowd(255), 8, true},
		{"others below and above", api.Counts{0, 4, 9, 3, 1, most32, 2, 0}, crowd(1<<1 | 1<<3 | 1<<5), 3, true},
		{"the greatest", api.Counts{most32, most32, most32, 0, 0, 0, 0, 0}, crowd(7), most32, true},
		{"one below the greatest", api.Counts{most32, most32 - 1, most32}, crowd(7), most32 - 1, true},
		{"about the half", api.Counts{1 << 31, 1<<31 - 1}, crowd(3), 1<<31 - 1, true},
	} {
		if got, ok := round.Least(c.c, c.m); got != c.want || ok != c.ok {
			t.Errorf("%s: %d, %v, not %d, %v", c.name, got, ok, c.want, c.ok)
		}
	}
}

// P9.1: who has sent no more than the others may send.
func TestMay(t *testing.T) {
	some := crowd(1<<1 | 1<<3 | 1<<5)
	for _, c := range []struct {
		name string
		c    api.Counts
		m    api.Members
		want []int
	}{
		{"nothing sent", api.Counts{}, crowd(255), []int{0, 1, 2, 3, 4, 5, 6, 7}},
		{"nothing sent, of some", api.Counts{}, some, []int{1, 3, 5}},
		{"all the same", api.Counts{7, 7, 7, 7, 7, 7, 7, 7}, some, []int{1, 3, 5}},
		{"the first is behind", api.Counts{0, 6, 0, 7, 0, 7, 0, 0}, some, []int{1}},
		{"the middle one is behind", api.Counts{9, 7, 9, 6, 9, 7, 9, 9}, some, []int{3}},
		{"the last is behind", api.Counts{0, 7, 6, 7, 9, 6, 1, 6}, some, []int{5}},
		{"one is ahead", api.Counts{6, 6, 6, 7, 6, 6, 6, 6}, some, []int{1, 5}},
		{"alone, daemon 0", api.Counts{9, 1, 9}, api.Members{1}, []int{0}},
		{"alone, daemon 7", api.Counts{0, 1, 9, 7: most32}, api.Members{7: 1}, []int{7}},
		{"the greatest", api.Counts{most32, most32, most32 - 1, most32}, crowd(11), []int{0, 1, 3}},
		{"no member", api.Counts{}, api.Members{}, nil},
	} {
		var got []int
		for daemon := range api.Daemons {
			if round.May(c.c, c.m, daemon) {
				got = append(got, daemon)
			}
		}
		if !slices.Equal(got, c.want) {
			t.Errorf("%s: %v may send, not %v", c.name, got, c.want)
		}
	}
}

// P9.1, R1: a self that is no daemon, or no member, may send nothing, whatever
// its count is.
func TestMayStranger(t *testing.T) {
	for _, m := range crowds() {
		for _, n := range []uint32{0, 1, most32 - 1, most32} {
			c := api.Counts{n, n, n, n, n, n, n, n}
			for _, self := range strangers {
				if round.May(c, m, self) {
					t.Errorf("May(%v, %v, %d)", c, m, self)
				}
			}
			for self := range api.Daemons {
				if got := round.May(c, m, self); got != (m[self] != 0) {
					t.Errorf("May(%v, %v, %d) is %v", c, m, self, got)
				}
			}
		}
	}
}

// P9.1: places that differ in one field, and in some that pull opposite ways.
func TestBefore(t *testing.T) {
	for _, c := range []struct {
		name string
		a, b api.Place
	}{
		{"the round alone", api.Place{Round: 4, From: 3, Slot: 1}, api.Place{Round: 5, From: 3, Slot: 1}},
		{"the daemon alone", api.Place{Round: 4, From: 3, Slot: 1}, api.Place{Round: 4, From: 4, Slot: 1}},
		{"the slot alone", api.Place{Round: 4, From: 3}, api.Place{Round: 4, From: 3, Slot: 1}},
		{"the round against the daemon", api.Place{Round: 4, From: 7, Slot: 1}, api.Place{Round: 5, Slot: 1}},
		{"the round against the slot", api.Place{Round: 4, From: 3, Slot: 1}, api.Place{Round: 5, From: 3}},
		{"the daemon against the slot", api.Place{Round: 4, From: 3, Slot: 1}, api.Place{Round: 4, From: 4}},
		{"the round against both", api.Place{Round: 4, From: 7, Slot: 1}, api.Place{Round: 5}},
		{"the first rounds", api.Place{From: 7, Slot: 1}, api.Place{Round: 1}},
		{"the last rounds", api.Place{Round: most32 - 1, From: 7, Slot: 1}, api.Place{Round: most32}},
		{"the first and the last round", api.Place{From: 7}, api.Place{Round: most32}},
		{"about the half", api.Place{Round: 1<<31 - 1}, api.Place{Round: 1 << 31}},
		{"the first and the last daemon", api.Place{Round: 2}, api.Place{Round: 2, From: 7}},
		{"the least and the greatest daemon", api.Place{From: math.MinInt}, api.Place{From: math.MaxInt}},
		{"the least daemon", api.Place{From: math.MinInt, Slot: 1}, api.Place{From: -1}},
		{"the least and the greatest slot", api.Place{Slot: math.MinInt}, api.Place{Slot: math.MaxInt}},
		{"a slot below 0", api.Place{Slot: -1}, api.Place{}},
	} {
		a, b := c.a, c.b
		if !round.Before(a, b) {
			t.Errorf("%s: not before", c.name)
		}
		if round.Before(b, a) {
			t.Errorf("%s, the other way: before", c.name)
		}
		if round.Before(a, a) || round.Before(b, b) {
			t.Errorf("%s: before itself", c.name)
		}
		if a != c.a || b != c.b {
			t.Errorf("%s: what was given became %v, %v", c.name, a, b)
		}
	}
}

// P9.1: of all places told in their order, each is before those behind it.
func TestBeforeAll(t *testing.T) {
	var l []api.Place
	for _, r := range []uint32{0, 1, 2, 1<<31 - 1, 1 << 31, most32 - 1, most32} {
		for _, from := range []int{math.MinInt, -1, 0, 1, 6, 7, 8, math.MaxInt} {
			for _, slot := range []int{math.MinInt, -1, 0, 1, 2, math.MaxInt} {
				l = append(l, api.Place{Round: r, From: from, Slot: slot})
			}
		}
	}
	for i, a := range l {
		for j, b := range l {
			if got := round.Before(a, b); got != (i < j) {
				t.Fatalf("Before(%v, %v) is %v", a, b, got)
			}
		}
	}
}

// P9.2: each service where it begins to hold, and one frame short of that.
func TestService(t *testing.T) {
	m := crowd(1<<1 | 1<<3 | 1<<6)
	const none, fifo, causal, agreed, safe = 0, 1, 2, 3, 4
	for _, c := range []struct {
		name string
		c    api.Counts // of daemons 1, 3 and 6
		p    api.Place
		many int // how many of the services, from fifo on
	}{
		{"not received", api.Counts{1: 3, 3: 4, 6: 4}, api.Place{Round: 4, From: 1}, none},
		{"the round 0", api.Counts{1: 3, 3: 4, 6: 4}, api.Place{From: 1}, none},
		{"nothing received", api.Counts{}, api.Place{Round: 1, From: 3}, none},
		{"one above the count", api.Counts{1: 9, 3: 4, 6: 9}, api.Place{Round: 5, From: 3}, none},
		{"two rounds ahead", api.Counts{1: 2, 3: 4, 6: 4}, api.Place{Round: 4, From: 3}, fifo},
		{"a higher one two rounds behind", api.Counts{1: 4, 3: 4, 6: 2}, api.Place{Round: 4, From: 3}, fifo},
		{"the first frame", api.Counts{3: 1}, api.Place{Round: 1, From: 3}, causal},
		{"the first frame of the first member", api.Counts{1: 1}, api.Place{Round: 1, From: 1}, agreed},
		{"the first frame of the last member", api.Counts{6: 1}, api.Place{Round: 1, From: 6}, causal},
		{"the one below is lacking", api.Counts{1: 3, 3: 4, 6: 4}, api.Place{Round: 4, From: 3}, causal},
		{"the one just below the last is lacking", api.Counts{1: 4, 3: 3, 6: 4}, api.Place{Round: 4, From: 6}, causal},
		{"the lowest one is lacking", api.Counts{1: 3, 3: 4, 6: 4}, api.Place{Round: 4, From: 6}, causal},
		{"a higher one is lacking", api.Counts{1: 4, 3: 4, 6: 3}, api.Place{Round: 4, From: 3}, agreed},
		{"all higher ones are lacking", api.Counts{1: 4, 3: 3, 6: 3}, api.Place{Round: 4, From: 1}, agreed},
		{"the round is full", api.Counts{1: 4, 3: 4, 6: 4}, api.Place{Round: 4, From: 6}, agreed},
		{"the next round but for one", api.Counts{1: 5, 3: 5, 6: 4}, api.Place{Round: 4, From: 3}, agreed},
		{"the next round but for its own", api.Counts{1: 5, 3: 4, 6: 5}, api.Place{Round: 4, From: 3}, agreed},
		{"the next round is full", api.Counts{1: 5, 3: 5, 6: 5}, api.Place{Round: 4, From: 3}, safe},
		{"long ago", api.Counts{1: 90, 3: 99, 6: 95}, api.Place{Round: 4, From: 6}, safe},
		{"the last round", api.Counts{1: most32, 3: most32, 6: most32}, api.Place{Round: most32, From: 6}, agreed},
		{"the round ahead of the last", api.Counts{1: most32, 3: most32, 6: most32}, api.Place{Round: most32 - 1, From: 6}, safe},
		{"the last round, the one ahead is full", api.Counts{1: most32 - 1, 3: most32, 6: most32}, api.Place{Round: most32, From: 6}, causal},
		{"the last round, the one ahead is not full", api.Counts{1: most32 - 2, 3: most32, 6: most32}, api.Place{Round: most32, From: 6}, fifo},
	} {
		for _, other := range []uint32{0, 4, most32} {
			for _, slot := range []int{0, 1} {
				counts, p := c.c, c.p
				for daemon, inc := range m {
					if inc == 0 {
						counts[daemon] = other
					}
				}
				p.Slot = slot
				for service := range api.Services {
					if got := round.Service(counts, m, p, service); got != (service < c.many) {
						t.Errorf("%s, others %d, slot %d: service %d is %v", c.name, other, slot, service, got)
					}
				}
			}
		}
	}
}

// P9.2, R1: a place of no member, and a service that is none, whatever was
// received.
func TestServiceWrong(t *testing.T) {
	for _, m := range crowds() {
		for _, n := range []uint32{0, 1, 2, most32 - 1, most32} {
			c := api.Counts{n, n, n, n, n, n, n, n}
			for _, r := range []uint32{0, 1, n - 1, n, n + 1, most32} {
				for _, slot := range []int{0, 1} {
					for _, from := range strangers {
						refuse(t, c, m, api.Place{Round: r, From: from, Slot: slot}, services)
						refuse(t, c, m, api.Place{Round: r, From: from, Slot: slot}, noServices)
					}
					for from := range api.Daemons {
						p := api.Place{Round: r, From: from, Slot: slot}
						refuse(t, c, m, p, noServices)
						if m[from] == 0 {
							refuse(t, c, m, p, services)
						}
					}
				}
			}
		}
	}
}

// refuse asks for none of these services to be true.
func refuse(t *testing.T, c api.Counts, m api.Members, p api.Place, l []int) {
	t.Helper()
	for _, service := range l {
		if round.Service(c, m, p, service) {
			t.Errorf("Service(%v, %v, %v, %d)", c, m, p, service)
		}
	}
}

// P9.3: the first member that is behind, in the round that it is to send.
func TestPosition(t *testing.T) {
	for _, c := range []struct {
		name string
		c    api.Counts
		m    api.Members
		want api.Place
	}{
		{"no member", api.Counts{1, 2, 3, 4, 5, 6, 7, 8}, api.Members{}, api.Place{}},
		{"nothing received", api.Counts{}, crowd(255), api.Place{Round: 1}},
		{"nothing received, of some", api.Counts{}, crowd(1<<2 | 1<<5), api.Place{Round: 1, From: 2}},
		{"daemon 0 alone", api.Counts{4}, crowd(1), api.Place{Round: 5}},
		{"daemon 7 alone", api.Counts{7: 4}, crowd(128), api.Place{Round: 5, From: 7}},
		{"all the same", api.Counts{4, 4, 4, 4, 4, 4, 4, 4}, crowd(255), api.Place{Round: 5}},
		{"the first is behind", api.Counts{3, 4, 4, 4, 4, 4, 4, 4}, crowd(255), api.Place{Round: 4}},
		{"a middle one is behind", api.Counts{4, 4, 4, 3, 4, 4, 4, 4}, crowd(255), api.Place{Round: 4, From: 3}},
		{"the last is behind", api.Counts{4, 4, 4, 4, 4, 4, 4, 3}, crowd(255), api.Place{Round: 4, From: 7}},
		{"two are behind", api.Counts{4, 4, 3, 4, 4, 3, 4, 4}, crowd(255), api.Place{Round: 4, From: 2}},
		{"one that is no member is behind", api.Counts{4, 0, 3, 4}, crowd(1<<0 | 1<<2 | 1<<3), api.Place{Round: 4, From: 2}},
		{"one that is no member is as far", api.Counts{3, 4, 3, 4}, crowd(1<<1 | 1<<2 | 1<<3), api.Place{Round: 4, From: 2}},
		{"one that is no member is ahead", api.Counts{9, 4, 3, 4}, crowd(1<<1 | 1<<2 | 1<<3), api.Place{Round: 4, From: 2}},
		{"ahead of the last round", api.Counts{most32, most32 - 1, most32}, crowd(7), api.Place{Round: most32, From: 1}},
		{"two rounds to go", api.Counts{most32, most32, most32 - 2}, crowd(7), api.Place{Round: most32 - 1, From: 2}},
		{"the last round stays", api.Counts{0, most32, most32}, crowd(6), api.Place{Round: most32, From: 1}},
	} {
		counts, m := c.c, c.m
		if got := round.Position(counts, m); got != c.want {
			t.Errorf("%s: %v, not %v", c.name, got, c.want)
		}
		if counts != c.c || m != c.m {
			t.Errorf("%s: what was given became %v, %v", c.name, counts, m)
		}
	}
}

// P9.1, P9.2, P9.3: members with none, one, some and all; all counts the same
// and one below the others; counts of the rest below and above; each round.
func TestEdges(t *testing.T) {
	for _, m := range crowds() {
		for _, n := range []uint32{0, 1, 2, 3, 1 << 31, most32 - 1, most32} {
			for _, rest := range []uint32{0, n - 1, n, n + 1, most32} {
				var c api.Counts
				for daemon := range c {
					c[daemon] = rest
					if m[daemon] != 0 {
						c[daemon] = n
					}
				}
				rounds := []uint32{0, 1, n - 2, n - 1, n, n + 1, most32 - 1, most32}
				agree(t, c, m, rounds)
				for daemon, inc := range m {
					if inc != 0 && n > 0 {
						below := c
						below[daemon] = n - 1
						agree(t, below, m, rounds)
					}
				}
			}
		}
	}
}

// drawnCount is a count about a base, at times one from anywhere.
func drawnCount(r *rand.Rand, base uint32) uint32 {
	switch r.Intn(12) {
	case 0:
		return r.Uint32()
	case 1:
		return []uint32{0, 1, most32 - 1, most32}[r.Intn(4)]
	}
	return uint32(min(int64(base)+int64(r.Intn(4)), most32))
}

// drawnBase is where the counts of a drawn thing begin.
func drawnBase(r *rand.Rand) uint32 {
	bases := []uint32{0, 0, 0, 1, 17, 1<<31 - 2, most32 - 3, most32 - 1}
	return bases[r.Intn(len(bases))]
}

// P9.1, P9.2, P9.3: drawn counts and members.
func TestDrawn(t *testing.T) {
	r := rand.New(rand.NewSource(91))
	for range 2500 {
		m, base := crowd(r.Intn(256)), drawnBase(r)
		var c api.Counts
		for daemon := range c {
			c[daemon] = drawnCount(r, base)
		}
		rounds := []uint32{0, 1, base - 1, base, base + 1, base + 2, base + 3, base + 4, most32}
		agree(t, c, m, append(rounds, c[:]...))
	}
}

// P9.4: what may be delivered by a service may be by each one ahead of it, and
// still may as counts rise, over drawn runs that are held against the account.
func TestRising(t *testing.T) {
	r := rand.New(rand.NewSource(94))
	for range 120 {
		m, base := crowd(r.Intn(256)), drawnBase(r)
		var c api.Counts
		for daemon := range c {
			c[daemon] = drawnCount(r, base)
		}
		rounds := []uint32{1, base - 1, base, base + 1, base + 2, base + 3, base + 4, most32 - 1, most32}
		var was map[api.Place]int
		for range 25 {
			agree(t, c, m, rounds)
			was = notFewer(t, c, m, rounds, was)
			daemon := r.Intn(api.Daemons)
			c[daemon] = uint32(min(int64(c[daemon])+int64(1+r.Intn(2)), most32))
		}
	}
}

// notFewer tells by how many services what stands at each place may be
// delivered, and asks that these be the first ones, and none be lost.
func notFewer(t *testing.T, c api.Counts, m api.Members, rounds []uint32, was map[api.Place]int) map[api.Place]int {
	t.Helper()
	now := map[api.Place]int{}
	for _, r := range rounds {
		for place := range api.Daemons * api.Slots {
			p := api.Place{Round: r, From: place / api.Slots, Slot: place % api.Slots}
			many := 0
			for _, service := range services {
				may := round.Service(c, m, p, service)
				if may && many < service {
					t.Fatalf("counts %v, members %v: %v by service %d, not by the ones ahead of it", c, m, p, service)
				}
				if may {
					many++
				}
			}
			if many < was[p] {
				t.Fatalf("counts %v, members %v: %v by %d services, where it was by %d", c, m, p, many, was[p])
			}
			now[p] = many
		}
	}
	return now
}

// P9.4: what may be delivered as agreed are just the members' places ahead of
// Position. It is asked where Least is below 2^32 - 1: at that one Position stays
// (P9.3), though the frames of the last round may be delivered (P9.2).
func TestAheadOfPosition(t *testing.T) {
	r := rand.New(rand.NewSource(95))
	for range 4000 {
		m, base := crowd(1+r.Intn(255)), drawnBase(r)
		var c api.Counts
		for daemon := range c {
			c[daemon] = drawnCount(r, base)
		}
		if lowest, _ := tell(c, m).lowest(); lowest == most32 {
			continue
		}
		position := round.Position(c, m)
		for _, n := range append([]uint32{1, base, base + 1, base + 2, base + 3, most32}, c[:]...) {
			for place := range api.Daemons * api.Slots {
				p := api.Place{Round: n, From: place / api.Slots, Slot: place % api.Slots}
				want := n > 0 && m[p.From] != 0 && round.Before(p, position)
				if got := round.Service(c, m, p, api.SvcAgreed); got != want {
					t.Fatalf("counts %v, members %v, Position %v: %v is agreed: %v", c, m, position, p, got)
				}
			}
		}
	}
}

// watcher is a daemon of a configuration: what it has received, and what it has
// delivered as agreed, in its order.
type watcher struct {
	c         api.Counts
	delivered []api.Place
}

// deliver delivers all that may be as agreed and was not yet. The places are
// found in a drawn order, so that Before alone puts them in theirs.
func (w *watcher) deliver(r *rand.Rand, m api.Members, rounds []uint32) {
	var fresh []api.Place
	for _, n := range rounds {
		for place := range api.Daemons * api.Slots {
			p := api.Place{Round: n, From: place / api.Slots, Slot: place % api.Slots}
			if round.Service(w.c, m, p, api.SvcAgreed) && !slices.Contains(w.delivered, p) {
				fresh = append(fresh, p)
			}
		}
	}
	r.Shuffle(len(fresh), func(i, j int) { fresh[i], fresh[j] = fresh[j], fresh[i] })
	slices.SortFunc(fresh, func(a, b api.Place) int {
		if round.Before(a, b) {
			return -1
		}
		return 1
	})
	w.delivered = append(w.delivered, fresh...)
}

// inOrder is the account of what a daemon delivers as agreed: all places of the
// members, told one by one, up to the first frame that did not come.
func inOrder(a account, rounds []uint32) []api.Place {
	var l []api.Place
	for _, n := range rounds {
		for _, daemon := range a.members {
			if !a.has(daemon, int64(n)) {
				return l
			}
			l = append(l, api.Place{Round: n, From: daemon}, api.Place{Round: n, From: daemon, Slot: 1})
		}
	}
	return l
}

// P9.4: two daemons with one configuration, which receive its frames each at
// its own pace, deliver agreed ones in one order: what one of them has
// delivered is what the other one began with.
func TestOneOrder(t *testing.T) {
	r := rand.New(rand.NewSource(96))
	const many = 5
	for range 150 {
		m := crowd(1 + r.Intn(255))
		base := []uint32{0, 0, 40, most32 - many}[r.Intn(4)]
		var rounds []uint32
		for n := range uint32(many) {
			rounds = append(rounds, base+1+n)
		}
		pair := [2]watcher{begin(r, m, base), begin(r, m, base)}
		for range 90 {
			w := &pair[r.Intn(2)]
			daemon := r.Intn(api.Daemons)
			if w.c[daemon] < base+many {
				w.c[daemon]++
			}
			w.deliver(r, m, rounds)
			if want := inOrder(tell(w.c, m), rounds); !slices.Equal(w.delivered, want) {
				t.Fatalf("counts %v, members %v: delivered %v, not %v", w.c, m, w.delivered, want)
			}
			x, y := pair[0].delivered, pair[1].delivered
			if both := min(len(x), len(y)); !slices.Equal(x[:both], y[:both]) {
				t.Fatalf("members %v: one delivered %v, the other one %v", m, x, y)
			}
		}
	}
}

// begin is a daemon that has received each member's frames up to the base, and
// knows drawn counts of those that are no members.
func begin(r *rand.Rand, m api.Members, base uint32) watcher {
	var w watcher
	for daemon, inc := range m {
		w.c[daemon] = base
		if inc == 0 {
			w.c[daemon] = drawnCount(r, base)
		}
	}
	return w
}
