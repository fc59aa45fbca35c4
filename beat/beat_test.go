package beat_test

import (
	"math"
	"math/rand"
	"testing"

	"congress/api"
	"congress/beat"
)

const most32 = math.MaxUint32

// edges are numbers at which clocks, waits and incarnations turn.
var edges = []uint32{0, 1, 2, 3, 1<<31 - 1, 1 << 31, most32 - 2, most32 - 1, most32}

// strangers are numbers that are no daemon's.
var strangers = []int{math.MinInt, math.MinInt + 1, math.MinInt32, -1 << 32, -8, -7, -1,
	8, 9, 15, 16, 256, math.MaxInt32, 1 << 32, 1<<32 + 3, math.MaxInt - 1, math.MaxInt}

// drawnNumber is a number that is often low or at an edge.
func drawnNumber(r *rand.Rand) uint32 {
	switch r.Intn(3) {
	case 0:
		return r.Uint32()
	case 1:
		return edges[r.Intn(len(edges))]
	}
	return uint32(r.Intn(6))
}

// drawnBeat is any beat, those that no run comes to among them.
func drawnBeat(r *rand.Rand) api.Beat {
	b := api.Beat{Now: drawnNumber(r)}
	for i := range api.Daemons {
		b.Heard[i] = drawnNumber(r)
		if r.Intn(2) == 0 {
			b.Heard[i] = b.Now - uint32(r.Intn(4)) + 1
		}
		b.Inc[i] = drawnNumber(r)
	}
	return b
}

// full is a beat in which every field of every daemon is another number.
func full(now uint32) api.Beat {
	return api.Beat{
		Now:   now,
		Heard: [api.Daemons]uint32{11, 12, 13, 14, 15, 16, 17, 18},
		Inc:   [api.Daemons]uint32{21, 22, 23, 24, 25, 26, 27, 28},
	}
}

// P8.1, P8.2: the chapter's example.
func TestExample(t *testing.T) {
	b, ok := beat.Hear(api.Beat{Now: 5}, 3, 2)
	if want := (api.Beat{Now: 5, Heard: [8]uint32{3: 5}, Inc: [8]uint32{3: 2}}); !ok || b != want {
		t.Fatalf("%v, %v, not %v", b, ok, want)
	}
	for now, want := range map[uint32]api.Members{
		5: {1, 0, 0, 2},
		6: {1, 0, 0, 2},
		7: {1},
	} {
		c := b
		for c.Now < now {
			c = beat.Tick(c)
		}
		if got := beat.Reach(c, 0, 1, 1); got != want {
			t.Errorf("at %d: %v, not %v", now, got, want)
		}
	}
	b = beat.Tick(beat.Tick(b))
	if c, ok := beat.Hear(b, 3, 1); ok || c != b {
		t.Errorf("heard with 1: %v, %v", c, ok)
	}
}

// P8.1: Now is one more at every edge but the last one, which stays; nothing
// else is another.
func TestTick(t *testing.T) {
	for _, c := range []struct{ now, want uint32 }{
		{0, 1}, {1, 2}, {2, 3}, {5, 6}, {255, 256}, {1<<16 - 1, 1 << 16},
		{1<<31 - 1, 1 << 31}, {most32 - 2, most32 - 1}, {most32 - 1, most32}, {most32, most32},
	} {
		b := full(c.now)
		was := b
		if got := beat.Tick(b); got != full(c.want) {
			t.Errorf("Tick(%v) is %v", b, got)
		}
		if b != was {
			t.Errorf("what was given became %v", b)
		}
	}
}

// P8.1: a daemon that is heard for the first time, at each Now and with each
// incarnation.
func TestHearFirst(t *testing.T) {
	for from := range api.Daemons {
		for _, now := range edges {
			for _, inc := range edges {
				b := api.Beat{Now: now}
				want := b
				may := now != 0 && inc != 0
				if may {
					want.Heard[from], want.Inc[from] = now, inc
				}
				if got, ok := beat.Hear(b, from, inc); got != want || ok != may {
					t.Fatalf("Hear(%v, %d, %d) is %v, %v", b, from, inc, got, ok)
				}
			}
		}
	}
}

// P8.1: incarnations that are the same as, one above and one below the one that
// is known, of the first and of the last daemon, and of one between.
func TestHearAgain(t *testing.T) {
	for _, from := range []int{0, 4, 7} {
		for _, now := range []uint32{1, 2, 20, most32 - 1, most32} {
			for _, c := range []struct {
				known, inc uint32
				ok         bool
			}{
				{5, 5, true}, {5, 6, true}, {5, 4, false}, {5, most32, true}, {5, 1, false}, {5, 0, false},
				{1, 1, true}, {1, 2, true}, {1, 0, false}, {0, 1, true}, {0, 0, false},
				{1 << 31, 1<<31 - 1, false}, {1<<31 - 1, 1 << 31, true},
				{most32, most32, true}, {most32, most32 - 1, false}, {most32 - 1, most32, true}, {most32, 1, false},
			} {
				b := full(now)
				b.Inc[from] = c.known
				was, want := b, b
				if c.ok {
					want.Heard[from], want.Inc[from] = now, c.inc
				}
				if got, ok := beat.Hear(b, from, c.inc); got != want || ok != c.ok {
					t.Errorf("Hear(%v, %d, %d) is %v, %v", b, from, c.inc, got, ok)
				}
				if b != was {
					t.Errorf("what was given became %v", b)
				}
			}
		}
	}
}

// P8.1: the clock of the last hearing, even one above Now, keeps nobody from
// being heard.
func TestHearWhatever(t *testing.T) {
	for _, heard := range edges {
		b := api.Beat{Now: 3, Heard: [8]uint32{7: heard}, Inc: [8]uint32{7: 2}}
		want := api.Beat{Now: 3, Heard: [8]uint32{7: 3}, Inc: [8]uint32{7: 2}}
		if got, ok := beat.Hear(b, 7, 2); got != want || !ok {
			t.Errorf("Hear(%v, 7, 2) is %v, %v", b, got, ok)
		}
	}
}

// P8.1, R1, R2: of a daemon that is none, of incarnation 0 and at Now 0 it is b
// as it was, and false, whichever of them come together.
func TestHearWrong(t *testing.T) {
	type hearing struct {
		now  uint32
		from int
		inc  uint32
	}
	var wrong []hearing
	for _, now := range edges {
		for _, from := range strangers {
			for _, inc := range edges {
				wrong = append(wrong, hearing{now, from, inc})
			}
		}
		for from := range api.Daemons {
			wrong = append(wrong, hearing{now, from, 0})
		}
	}
	for from := range api.Daemons {
		wrong = append(wrong, hearing{0, from, 99}, hearing{0, from, most32})
	}
	for _, w := range wrong {
		b := full(w.now)
		if got, ok := beat.Hear(b, w.from, w.inc); got != b || ok {
			t.Fatalf("Hear(%v, %d, %d) is %v, %v", b, w.from, w.inc, got, ok)
		}
	}
}

// P8.2: one other daemon, with Heard at 0, at Now and one above it, and with
// Now less Heard at wait and one above it.
func TestReachEdges(t *testing.T) {
	for _, c := range []struct {
		name             string
		now, heard, wait uint32
		reached          bool
	}{
		{"nothing yet", 0, 0, 0, false},
		{"nothing yet, the longest wait", 0, 0, most32, false},
		{"never heard", 5, 0, 5, false},
		{"never heard, the longest wait", most32, 0, most32, false},
		{"heard now, no wait", 5, 5, 0, true},
		{"heard at the first tick, no wait", 1, 1, 0, true},
		{"heard at the last tick, no wait", most32, most32, 0, true},
		{"heard now, the longest wait", 5, 5, most32, true},
		{"one above Now, no wait", 5, 6, 0, false},
		{"one above Now", 5, 6, 3, false},
		{"one above Now, the longest wait", 5, 6, most32, false},
		{"one above Now 0, the longest wait", 0, 1, most32, false},
		{"the last tick at Now 0", 0, most32, most32, false},
		{"the last tick at Now 1", 1, most32, 2, false},
		{"one above the one ahead of the last tick", most32 - 1, most32, most32, false},
		{"one tick ago, no wait", 6, 5, 0, false},
		{"at wait", 6, 5, 1, true},
		{"one above wait", 7, 5, 1, false},
		{"at a longer wait", 1005, 5, 1000, true},
		{"one above a longer wait", 1006, 5, 1000, false},
		{"about the half, at wait", 1<<31 + 1, 1, 1 << 31, true},
		{"about the half, one above wait", 1<<31 + 1, 1, 1<<31 - 1, false},
		{"all the time, at wait", most32, 1, most32 - 1, true},
		{"all the time, one above wait", most32, 1, most32 - 2, false},
		{"all the time, the longest wait", most32, 1, most32, true},
		{"the last two ticks, no wait", most32, most32 - 1, 0, false},
		{"the last two ticks, at wait", most32, most32 - 1, 1, true},
	} {
		for daemon := range api.Daemons {
			for _, inc := range []uint32{0, 1, 9, most32} {
				b := api.Beat{Now: c.now}
				b.Heard[daemon], b.Inc[daemon] = c.heard, inc
				was := b
				var want api.Members
				if c.reached {
					want[daemon] = inc
				}
				if got := beat.Reach(b, -1, 3, c.wait); got != want {
					t.Errorf("%s: daemon %d with %d: %v, not %v", c.name, daemon, inc, got, want)
				}
				if b != was {
					t.Errorf("%s: what was given became %v", c.name, b)
				}
			}
		}
	}
}

// P8.2: of self it is inc, even 0, whether self was heard or not.
func TestReachSelf(t *testing.T) {
	for self := range api.Daemons {
		for _, inc := range edges {
			for _, heard := range []uint32{0, 1, 9, 10, 11} {
				for _, known := range []uint32{0, 7} {
					b := api.Beat{Now: 10}
					b.Heard[self], b.Inc[self] = heard, known
					var want api.Members
					want[self] = inc
					if got := beat.Reach(b, self, inc, 1); got != want {
						t.Fatalf("Reach(%v, %d, %d, 1) is %v", b, self, inc, got)
					}
				}
			}
		}
	}
}

// P8.2, R1: a self that is no daemon takes nobody's place.
func TestReachStranger(t *testing.T) {
	b := full(14)
	want := api.Members{0, 22, 23, 24}
	for _, self := range strangers {
		for _, inc := range edges {
			if got := beat.Reach(b, self, inc, 2); got != want {
				t.Errorf("Reach(%v, %d, %d, 2) is %v, not %v", b, self, inc, got, want)
			}
			if got := beat.Reach(api.Beat{}, self, inc, most32); got != (api.Members{}) {
				t.Errorf("Reach(of nothing, %d, %d) is %v", self, inc, got)
			}
		}
	}
}

// P8.2: some daemons at once, each by its own clock.
func TestReachMany(t *testing.T) {
	b := full(14)
	for _, c := range []struct {
		self int
		wait uint32
		want api.Members
	}{
		{0, 0, api.Members{5, 0, 0, 24}},
		{0, 1, api.Members{5, 0, 23, 24}},
		{0, 2, api.Members{5, 22, 23, 24}},
		{1, 3, api.Members{21, 5, 23, 24}},
		{7, 3, api.Members{21, 22, 23, 24, 0, 0, 0, 5}},
		{7, most32, api.Members{21, 22, 23, 24, 0, 0, 0, 5}},
	} {
		if got := beat.Reach(b, c.self, 5, c.wait); got != c.want {
			t.Errorf("self %d, wait %d: %v, not %v", c.self, c.wait, got, c.want)
		}
	}
}

// P8.1, P8.2: drawn beats and arguments, in wider numbers that do not wrap.
func TestDrawn(t *testing.T) {
	r := rand.New(rand.NewSource(81))
	for range 20000 {
		b, wait, inc := drawnBeat(r), drawnNumber(r), drawnNumber(r)
		who := r.Intn(12) - 2
		was, heard := b, b
		may := who >= 0 && who < 8 && inc > 0 && b.Now > 0 && int64(inc)-int64(b.Inc[who]) >= 0
		if may {
			heard.Heard[who], heard.Inc[who] = b.Now, inc
		}
		if got, ok := beat.Hear(b, who, inc); got != heard || ok != may {
			t.Fatalf("Hear(%v, %d, %d) is %v, %v", b, who, inc, got, ok)
		}
		m := beat.Reach(b, who, inc, wait)
		for i := range api.Daemons {
			ago := int64(b.Now) - int64(b.Heard[i])
			want := uint32(0)
			if i == who {
				want = inc
			} else if b.Heard[i] > 0 && ago >= 0 && ago <= int64(wait) {
				want = b.Inc[i]
			}
			if m[i] != want {
				t.Fatalf("Reach(%v, %d, %d, %d) is %v: of %d not %d", b, who, inc, wait, m, i, want)
			}
		}
		if b != was {
			t.Fatalf("%v became %v", was, b)
		}
	}
}

// hearing is one line of an account: who was heard, when, with what.
type hearing struct {
	from int
	at   uint64
	inc  uint32
}

// account is what happened in a run, told from its beginning on: how many ticks
// there were, and each hearing that counts.
type account struct {
	ticks uint64
	lines []hearing
}

// highest is the highest incarnation of a daemon that was heard.
func (a *account) highest(from int) uint32 {
	high := uint32(0)
	for _, h := range a.lines {
		if h.from == from {
			high = max(high, h.inc)
		}
	}
	return high
}

// hear writes a hearing down, if it counts.
func (a *account) hear(from int, inc uint32) bool {
	if from < 0 || from > 7 || inc == 0 || a.ticks == 0 || inc < a.highest(from) {
		return false
	}
	a.lines = append(a.lines, hearing{from, a.ticks, inc})
	return true
}

// reached is the incarnation of the last hearing of a daemon, if no more than
// wait ticks came behind it.
func (a *account) reached(from int, wait uint64) uint32 {
	inc := uint32(0)
	for _, h := range a.lines {
		if h.from == from && h.at+wait >= a.ticks {
			inc = h.inc
		}
	}
	return inc
}

// others are the fields of all daemons but one.
func others(b api.Beat, but int) api.Beat {
	if but >= 0 && but < api.Daemons {
		b.Heard[but], b.Inc[but] = 0, 0
	}
	return b
}

// P8.3: drawn runs of ticks and daemons that are heard, against an account.
func TestRuns(t *testing.T) {
	r := rand.New(rand.NewSource(83))
	for range 400 {
		var b api.Beat
		var a account
		waits := []uint32{0, 1, 2, uint32(r.Intn(12)), most32}
		for range 120 {
			if r.Intn(3) == 0 {
				b = beat.Tick(b)
				a.ticks++
			} else {
				b = runHear(t, r, b, &a)
			}
			holdAgainst(t, b, &a, r.Intn(10)-1, waits)
		}
	}
}

// runHear lets a drawn daemon be heard, and holds what it changes against the
// account.
func runHear(t *testing.T, r *rand.Rand, b api.Beat, a *account) api.Beat {
	t.Helper()
	from := r.Intn(10) - 1
	inc := uint32(r.Intn(3))
	if r.Intn(2) == 0 {
		inc += a.highest(from) - uint32(r.Intn(2))
	}
	want := a.hear(from, inc)
	next, ok := beat.Hear(b, from, inc)
	if ok != want {
		t.Fatalf("Hear(%v, %d, %d): %v", b, from, inc, ok)
	}
	if !ok && next != b || others(next, from) != others(b, from) {
		t.Fatalf("Hear(%v, %d, %d) is %v: another one was changed", b, from, inc, next)
	}
	for i := range api.Daemons {
		if next.Inc[i] < b.Inc[i] {
			t.Fatalf("Hear(%v, %d, %d) is %v: an incarnation fell", b, from, inc, next)
		}
	}
	return next
}

// holdAgainst holds who is reached, with each wait, against the account.
func holdAgainst(t *testing.T, b api.Beat, a *account, self int, waits []uint32) {
	t.Helper()
	if uint64(b.Now) != a.ticks {
		t.Fatalf("%d ticks, and Now is %d", a.ticks, b.Now)
	}
	for _, wait := range waits {
		m := beat.Reach(b, self, 77, wait)
		for i := range api.Daemons {
			want := a.reached(i, uint64(wait))
			if i == self {
				want = 77
			}
			if m[i] != want {
				t.Fatalf("Reach(%v, %d, 77, %d) is %v: of %d not %d", b, self, wait, m, i, want)
			}
		}
	}
}

// P8.3: who is heard is reached for wait ticks more and then no more, until it
// is heard again; wherever the clock begins, up to its last tick.
func TestReachedForWait(t *testing.T) {
	for wait := range uint32(7) {
		// From the last of these on the clock comes to its last tick and stays.
		for _, begin := range []uint32{1, 2, 1<<31 - 3, most32 - 20, most32 - wait - 2} {
			b, ok := beat.Hear(api.Beat{Now: begin}, 6, 4)
			if !ok {
				t.Fatalf("not heard at %d", begin)
			}
			for tick := range wait + 3 {
				want := api.Members{0: 9}
				if tick <= wait {
					want[6] = 4
				}
				if got := beat.Reach(b, 0, 9, wait); got != want {
					t.Errorf("heard at %d, wait %d, %d ticks later: %v", begin, wait, tick, got)
				}
				b = beat.Tick(b)
			}
			b, _ = beat.Hear(b, 6, 4)
			if got := beat.Reach(b, 0, 9, wait); got[6] != 4 {
				t.Errorf("heard again, wait %d: %v", wait, got)
			}
		}
	}
}
