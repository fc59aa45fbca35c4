package roster_test

import (
	"fmt"
	"math"
	"math/big"
	"math/rand"
	"reflect"
	"slices"
	"testing"
	"time"

	"congress/api"
	"congress/roster"
)

const most = math.MaxUint64

// The errors' numbers, as the chapter says them.
const (
	fine      = 0
	full      = 161
	noSession = 162
)

// oddNumbers are numbers at the edges of their type and of what may be, and
// numbers that are the same in some of their bits.
var oddNumbers = []uint64{0, 1, 2, 3, 65534, 65535, 65536, 65537, 1<<32 - 2, 1<<32 - 1, 1 << 32, 1<<32 + 1, 1<<32 + 2, 1 << 31, 1<<31 - 1, 1 << 63, 1<<63 - 1, 1<<63 + 1, 1<<53 + 1, 1 << 53, most - 1, most}

// seat is a session, told without the program's packages.
type seat struct{ id, number uint64 }

// hall is a roster, told without the program's packages.
type hall struct {
	last  uint64
	seats []seat
}

// String tells the beginning of a hall, of a test that failed.
func (h hall) String() string {
	return fmt.Sprintf("[last %d, %d: %v]", h.last, len(h.seats), h.seats[:min(len(h.seats), 12)])
}

func (h hall) same(other hall) bool {
	return h.last == other.last && slices.Equal(h.seats, other.seats)
}

// with is a hall of the same seats and as many more.
func (h hall) with(more ...seat) hall {
	return hall{h.last, slices.Concat(h.seats, more)}
}

// firsts is where each Id stands first.
func (h hall) firsts() map[uint64]int {
	at := map[uint64]int{}
	for i := len(h.seats) - 1; i >= 0; i-- {
		at[h.seats[i].id] = i
	}
	return at
}

// below tells whether a number is below a power of two, less some.
func below(n uint64, power uint, less int64) bool {
	edge := new(big.Int).Lsh(big.NewInt(1), power)
	edge.Sub(edge, big.NewInt(less))
	return new(big.Int).SetUint64(n).Cmp(edge) < 0
}

// opened is the account of Open.
func (h hall) opened() (hall, uint64, int) {
	if len(h.seats) > 3 || !below(h.last, 16, 1) {
		return hall{}, 0, full
	}
	then := hall{last: h.last + 1}.with(h.seats...)
	return then.with(seat{id: then.last}), then.last, fine
}

// closed is the account of Close.
func (h hall) closed(id uint64) (hall, int) {
	at, stands := h.firsts()[id]
	if !stands {
		return hall{}, noSession
	}
	left := hall{last: h.last}
	for i, s := range h.seats {
		if i != at {
			left.seats = append(left.seats, s)
		}
	}
	return left, fine
}

// next is the account of Next.
func (h hall) next(id uint64) (hall, uint64, int) {
	at, stands := h.firsts()[id]
	if !stands || !below(h.seats[at].number, 32, 1) {
		return hall{}, 0, noSession
	}
	one := seat{id, 1 + h.seats[at].number}
	return hall{h.last, slices.Concat(h.seats[:at], []seat{one}, h.seats[at+1:])}, one.number, fine
}

// may is the account of May.
func (h hall) may() bool {
	ids := []uint64{0}
	for _, s := range h.seats {
		if !below(s.number, 32, 0) {
			return false
		}
		ids = append(ids, s.id)
	}
	sorted := slices.Sorted(slices.Values(ids))
	distinct := slices.Compact(slices.Clone(sorted))
	return slices.Equal(ids, distinct) && len(ids) < 6 && sorted[len(sorted)-1] <= h.last && below(h.last, 16, 0)
}

// room is what stands behind a list that is given.
var room = []seat{{1, 7}, {77, 78}, {5, 1<<32 - 1}}

// rosterOf is the program's form of a hall, in a list with room behind it in
// which something stands, so that writing there is seen.
func rosterOf(h hall) api.Roster {
	var list []api.Session
	for _, s := range slices.Concat(h.seats, room) {
		list = append(list, api.Session{Id: s.id, Number: s.number})
	}
	return api.Roster{Last: h.last, List: slices.Clip(list)[:len(h.seats)]}
}

// hallOf is the account's form of a roster.
func hallOf(r api.Roster) hall {
	h := hall{last: r.Last}
	for _, s := range r.List {
		h.seats = append(h.seats, seat{s.Id, s.Number})
	}
	return h
}

// untouched asks that a roster made by rosterOf is what it was, with the room
// behind it.
func untouched(t *testing.T, call string, r api.Roster, h hall) {
	t.Helper()
	want := h.with(room...)
	all := hallOf(api.Roster{Last: r.Last, List: r.List[:len(want.seats)]})
	if len(r.List) != len(h.seats) || !all.same(want) {
		t.Fatalf("%s: what was given became %s, not %s", call, all, want)
	}
}

// overlap tells whether two lists, with the room behind them, share memory.
func overlap(a, b []api.Session) bool {
	one, other := reflect.ValueOf(a), reflect.ValueOf(b)
	size := one.Type().Elem().Size()
	return one.Pointer() < other.Pointer()+uintptr(cap(b))*size && other.Pointer() < one.Pointer()+uintptr(cap(a))*size
}

// answer is what a call that changes a roster says.
type answer struct {
	hall
	n    uint64
	code int
}

func (a answer) same(other answer) bool {
	return a.hall.same(other.hall) && a.n == other.n && a.code == other.code
}

// agree asks that a call says, each time, what the account says, leaves alone
// what it was given, and answers memory of its own.
func agree(t *testing.T, name string, h hall, want answer, call func(api.Roster) (api.Roster, uint64, api.Errno)) answer {
	t.Helper()
	name += " of " + h.String()
	given := rosterOf(h)
	r, n, code := call(given)
	untouched(t, name, given, h)
	got := answer{hallOf(r), n, int(code)}
	if !got.same(want) {
		t.Fatalf("%s is %v, not %v", name, got, want)
	}
	again, n, code := call(given)
	if second := (answer{hallOf(again), n, int(code)}); !second.same(want) {
		t.Fatalf("%s is another time %v, not %v", name, second, want)
	}
	if overlap(r.List, given.List) || overlap(again.List, given.List) || overlap(r.List, again.List) {
		t.Fatalf("%s shares memory", name)
	}
	if got.code != fine && (len(r.List) != 0 || r.Last != 0 || got.n != 0) {
		t.Fatalf("%s: error %d beside %v, %d", name, got.code, r, got.n)
	}
	return got
}

// agreeOpen asks that Open says what the account says.
func agreeOpen(t *testing.T, h hall) answer {
	t.Helper()
	then, id, code := h.opened()
	return agree(t, "Open", h, answer{then, id, code}, roster.Open)
}

// agreeClose asks that Close says what the account says.
func agreeClose(t *testing.T, h hall, id uint64) answer {
	t.Helper()
	then, code := h.closed(id)
	return agree(t, fmt.Sprintf("Close %d", id), h, answer{then, 0, code}, func(r api.Roster) (api.Roster, uint64, api.Errno) {
		r, code := roster.Close(r, id)
		return r, 0, code
	})
}

// agreeNext asks that Next says what the account says.
func agreeNext(t *testing.T, h hall, id uint64) answer {
	t.Helper()
	then, n, code := h.next(id)
	return agree(t, fmt.Sprintf("Next %d", id), h, answer{then, n, code}, func(r api.Roster) (api.Roster, uint64, api.Errno) {
		return roster.Next(r, id)
	})
}

// agreeHas asks that Has says what the account says.
func agreeHas(t *testing.T, h hall, id uint64) bool {
	t.Helper()
	given := rosterOf(h)
	got := roster.Has(given, id)
	untouched(t, "Has", given, h)
	if _, want := h.firsts()[id]; got != want {
		t.Fatalf("Has %d of %s is %v, not %v", id, h, got, want)
	}
	return got
}

// agreeMay asks that May says what the account says.
func agreeMay(t *testing.T, h hall) bool {
	t.Helper()
	given := rosterOf(h)
	got := roster.May(given)
	untouched(t, "May", given, h)
	if want := h.may(); got != want {
		t.Fatalf("May of %s is %v, not %v", h, got, want)
	}
	return got
}

// agreeAll asks that all calls say what the account says, with each of some Ids.
func agreeAll(t *testing.T, h hall, ids ...uint64) {
	t.Helper()
	agreeOpen(t, h)
	agreeMay(t, h)
	for _, id := range ids {
		agreeClose(t, h, id)
		agreeNext(t, h, id)
		agreeHas(t, h, id)
	}
}

// isCode asks that an error is the one that is wanted.
func isCode(t *testing.T, what string, got, want int) {
	t.Helper()
	if got != want {
		t.Fatalf("%s: error %d, not %d", what, got, want)
	}
}

// many is a hall of as many seats, each Id three above the one ahead of it; up
// to 4 may be.
func many(n int) hall {
	h := hall{last: 1 + 3*uint64(n)}
	for i := range n {
		h.seats = append(h.seats, seat{2 + 3*uint64(i), uint64(i * i)})
	}
	return h
}

// near is numbers that differ little from one: by one, or in one bit.
func near(n uint64) []uint64 {
	l := []uint64{n - 1, n + 1, n << 32, n >> 32, n<<32 | n>>32, uint64(uint32(n)), uint64(uint16(n)), ^n, -n}
	for bit := range 64 {
		l = append(l, n^1<<bit)
	}
	return slices.DeleteFunc(l, func(x uint64) bool { return x == n })
}

// drawnNumber is one of few numbers, seldom one at an edge, or any.
func drawnNumber(r *rand.Rand) uint64 {
	switch r.Intn(10) {
	case 0:
		return oddNumbers[r.Intn(len(oddNumbers))]
	case 1:
		return r.Uint64()
	}
	return uint64(r.Intn(7))
}

// drawnHall is up to as many seats, of which some, or all, may not be.
func drawnHall(r *rand.Rand, n int) hall {
	h := hall{last: drawnNumber(r)}
	for range r.Intn(n + 1) {
		h.seats = append(h.seats, seat{drawnNumber(r), drawnNumber(r)})
	}
	return h
}

// drawnRoster is a hall that may be, often at an edge.
func drawnRoster(r *rand.Rand) hall {
	h := hall{last: []uint64{0, 1, 3, 4, 5, 9, 300, 65533, 65534, 65535, uint64(r.Intn(65536))}[r.Intn(11)]}
	var ids []uint64
	for range min(r.Intn(5), int(h.last)) {
		ids = append(ids, h.last-uint64(r.Intn(min(int(h.last), 6))))
	}
	if h.last > 0 && len(ids) < 4 && r.Intn(3) == 0 {
		ids = append(ids, 1)
	}
	slices.Sort(ids)
	for _, id := range slices.Compact(ids) {
		number := []uint64{0, 0, 1, 2, 1<<32 - 3, 1<<32 - 2, 1<<32 - 1, uint64(r.Uint32())}[r.Intn(8)]
		h.seats = append(h.seats, seat{id, number})
	}
	return h
}

// ends asks that a call ends, without a panic.
func ends(t *testing.T, name string, call func()) {
	t.Helper()
	done := make(chan any)
	go func() {
		defer func() { done <- recover() }()
		call()
	}()
	select {
	case what := <-done:
		if what != nil {
			t.Fatalf("%s: a panic: %v", name, what)
		}
	case <-time.After(time.Minute):
		t.Fatalf("%s does not end", name)
	}
}
