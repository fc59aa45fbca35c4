package roster_test

import (
	"fmt"
	"math/rand"
	"slices"
	"testing"

	"congress/api"
	"congress/roster"
)

// The kinds of what is done to a roster.
const (
	doOpen = iota
	doClose
	doSend
)

// event is something that was done to a roster, told without the program's
// packages.
type event struct {
	what int
	id   uint64
}

// chronicle is all that was done, from nothing on, with what had no effect left
// away. It has no roster: who is there, and which Number comes next, is told of
// what was done alone.
type chronicle []event

// count is how often something was done; of an opening the Id is not asked.
func (c chronicle) count(e event) uint64 {
	n := uint64(0)
	for _, done := range c {
		if done.what == e.what && (e.what == doOpen || done.id == e.id) {
			n++
		}
	}
	return n
}

// has tells whether an Id was opened and not closed: Ids are the openings' own
// numbers, so that it was opened if there were as many.
func (c chronicle) has(id uint64) bool {
	return id > 0 && id <= c.count(event{doOpen, 0}) && c.count(event{doClose, id}) == 0
}

// hall is who is there, and what each of them sent.
func (c chronicle) hall() hall {
	h := hall{last: c.count(event{doOpen, 0})}
	for id := range h.last {
		if c.has(id + 1) {
			h.seats = append(h.seats, seat{id + 1, c.count(event{doSend, id + 1})})
		}
	}
	return h
}

// would is what something answers: the Id that is opened, or the message's
// Number; and the error that it is refused with.
func (c chronicle) would(e event) (uint64, int) {
	switch {
	case e.what == doOpen && len(c.hall().seats) == 4:
		return 0, full
	case e.what == doOpen:
		return c.count(e) + 1, fine
	case !c.has(e.id):
		return 0, noSession
	case e.what == doSend:
		return c.count(e) + 1, fine
	}
	return 0, fine
}

// book is a roster, beside the chronicle of what was done to it.
type book struct {
	t      *testing.T
	roster api.Roster
	done   chronicle
	given  []uint64
	codes  map[string]int
}

func newBook(t *testing.T) *book {
	return &book{t: t, codes: map[string]int{}}
}

// call does something to the roster.
func (b *book) call(e event) (r api.Roster, n uint64, code api.Errno) {
	switch e.what {
	case doOpen:
		return roster.Open(b.roster)
	case doClose:
		r, code = roster.Close(b.roster, e.id)
		return r, 0, code
	}
	return roster.Next(b.roster, e.id)
}

// do does something to the roster, and asks that it answers, or is refused, as
// the chronicle says, and that the roster is what was done, and may be.
func (b *book) do(e event) (uint64, int) {
	b.t.Helper()
	want, wantCode := b.done.would(e)
	got, n, code := b.call(e)
	if n != want || int(code) != wantCode {
		b.t.Fatalf("%+v behind %+v is %d, error %d, not %d, error %d", e, b.done, n, code, want, wantCode)
	}
	if code != api.OK && !hallOf(got).same(hall{}) {
		b.t.Fatalf("%+v behind %+v: error %d and %s", e, b.done, code, hallOf(got))
	}
	if code == api.OK {
		b.roster, b.done = got, append(b.done, e)
	}
	b.codes[fmt.Sprintf("%d %d", e.what, wantCode)]++
	if e.what == doOpen && wantCode == fine {
		if slices.Contains(b.given, n) {
			b.t.Fatalf("%d is given twice, behind %+v", n, b.done)
		}
		b.given = append(b.given, n)
	}
	if h := b.done.hall(); !hallOf(b.roster).same(h) || !roster.May(b.roster) {
		b.t.Fatalf("behind %+v is %s, not %s", b.done, hallOf(b.roster), h)
	}
	return n, wantCode
}

// ask asks that each Id that was given, those beside it, and some that never
// were, are there, or are not, as the chronicle says.
func (b *book) ask() {
	b.t.Helper()
	for _, id := range append([]uint64{most, 1 << 32, 65536, 65535}, b.given...) {
		for _, id := range []uint64{id, id + 1, id - 1} {
			if got, want := roster.Has(b.roster, id), b.done.has(id); got != want {
				b.t.Fatalf("Has %d is %v behind %+v", id, got, b.done)
			}
		}
	}
}

// drawnEvent is something to be done: mostly to one of those who are there, or
// were.
func (b *book) drawnEvent(r *rand.Rand, sends int) event {
	e := event{what: doOpen}
	if len(b.given) > 0 {
		e.id = b.given[r.Intn(len(b.given))]
	}
	if len(b.roster.List) > 0 && r.Intn(5) > 0 {
		e.id = b.roster.List[r.Intn(len(b.roster.List))].Id
	}
	if r.Intn(20) == 0 {
		e.id = drawnNumber(r)
	}
	switch n := r.Intn(5 + sends); {
	case n >= 5:
		e.what = doSend
	case n >= 3:
		e.what = doClose
	}
	return e
}

// P17.3: drawn openings, closings and sends from nothing on; behind each of them
// the roster is what was done, and may be, no Id was given twice, and each
// session's Numbers are 1, 2, 3 and so on.
func TestDrawnBooks(t *testing.T) {
	codes := map[string]int{}
	for seed := range int64(150) {
		r := rand.New(rand.NewSource(1730 + seed))
		b := newBook(t)
		sends := []int{0, 1, 5, 30}[seed%4]
		for range 120 {
			b.do(b.drawnEvent(r, sends))
			b.ask()
		}
		for what, many := range b.codes {
			codes[what] += many
		}
	}
	for _, what := range []string{"0 0", "0 161", "1 0", "1 162", "2 0", "2 162"} {
		if codes[what] < 200 {
			t.Errorf("%s came %d times: %v", what, codes[what], codes)
		}
	}
}

// P17.3: a session's Numbers are 1, 2, 3 and so on, whatever the others do.
func TestOwnNumbers(t *testing.T) {
	r := rand.New(rand.NewSource(1830))
	for range 40 {
		b := newBook(t)
		for range r.Intn(12) {
			b.do(b.drawnEvent(r, 3))
		}
		if len(b.roster.List) == 4 {
			b.do(event{doClose, b.roster.List[r.Intn(4)].Id})
		}
		id, _ := b.do(event{doOpen, 0})
		for want := uint64(1); want < 30; want++ {
			for range 3 {
				if e := b.drawnEvent(r, 6); e.id != id || e.what == doOpen {
					b.do(e)
				}
			}
			if n, code := b.do(event{doSend, id}); n != want || code != fine {
				t.Fatalf("%d's send is %d, error %d, not %d, behind %+v", id, n, code, want, b.done)
			}
		}
	}
}

// P17.3: who was closed is never there again: no opening gives its Id.
func TestClosedStaysClosed(t *testing.T) {
	b := newBook(t)
	for round := range uint64(40) {
		for range 5 {
			b.do(event{doOpen, 0})
		}
		for i := range 4 - round%3 {
			id := b.roster.List[i%uint64(len(b.roster.List))].Id
			b.do(event{doSend, id})
			b.do(event{doClose, id})
			b.do(event{doClose, id})
			b.do(event{doSend, id})
		}
		b.ask()
	}
}

// P17.3: all Ids that there are, from nothing on: 1 to 65535, each once, and then
// no more, whoever is closed.
func TestAllIds(t *testing.T) {
	var r api.Roster
	for want := uint64(1); want <= 65535; want++ {
		if want > 4 {
			closed, e := roster.Close(r, r.List[want%4].Id)
			if e != api.OK {
				t.Fatalf("Close ahead of %d: error %d", want, e)
			}
			r = closed
		}
		opened, id, e := roster.Open(r)
		if id != want || e != api.OK || !roster.May(opened) {
			t.Fatalf("Open of %v is %v, %d, error %d, not %d", r, opened, id, e, want)
		}
		r = opened
	}
	for len(r.List) > 0 {
		if n, id, e := roster.Open(r); e != api.ErrFull || id != 0 || n.Last != 0 || len(n.List) != 0 {
			t.Fatalf("Open of %v is %v, %d, error %d", r, n, id, e)
		}
		left, e := roster.Close(r, r.List[len(r.List)/2].Id)
		if e != api.OK || !roster.May(left) {
			t.Fatalf("Close leaves %v, error %d", left, e)
		}
		r = left
	}
	if _, _, e := roster.Open(r); e != api.ErrFull || r.Last != 65535 {
		t.Fatalf("Open of %v: error %d", r, e)
	}
}

// P17.3: many Numbers of one session, beyond two bytes.
func TestManyNumbers(t *testing.T) {
	r, id, _ := roster.Open(api.Roster{})
	for want := uint64(1); want <= 200000; want++ {
		next, n, e := roster.Next(r, id)
		if e != api.OK || n != want || !roster.May(next) || next.List[0].Number != want {
			t.Fatalf("Next of %v is %v, %d, error %d", r, next, n, e)
		}
		r = next
	}
}

// P17.3: the last Numbers that there are.
func TestLastNumbers(t *testing.T) {
	r := api.Roster{Last: 2, List: []api.Session{{Id: 1, Number: 1<<32 - 20}, {Id: 2}}}
	for want := uint64(1<<32 - 19); want <= 1<<32-1; want++ {
		next, n, e := roster.Next(r, 1)
		if e != api.OK || n != want || !roster.May(next) {
			t.Fatalf("Next of %v is %v, %d, error %d", r, next, n, e)
		}
		r = next
	}
	for range 3 {
		if _, n, e := roster.Next(r, 1); e != api.ErrSession || n != 0 {
			t.Fatalf("Next of %v is %d, error %d", r, n, e)
		}
	}
	if _, n, e := roster.Next(r, 2); e != api.OK || n != 1 {
		t.Fatalf("the other one's Next is %d, error %d", n, e)
	}
}

// P17.3: from any roster that may be, behind each call is one, and an Id that is
// opened is above all that were given.
func TestStays(t *testing.T) {
	r := rand.New(rand.NewSource(1930))
	codes := map[string]int{}
	for range 4000 {
		h := drawnRoster(r)
		if !agreeMay(t, h) {
			t.Fatalf("%s was drawn, and may not be", h)
		}
		for range 8 {
			id := drawnNumber(r)
			if len(h.seats) > 0 && r.Intn(4) > 0 {
				id = h.seats[r.Intn(len(h.seats))].id
			}
			var got answer
			what := r.Intn(3)
			switch what {
			case doOpen:
				got = agreeOpen(t, h)
			case doClose:
				got = agreeClose(t, h, id)
			default:
				got = agreeNext(t, h, id)
			}
			codes[fmt.Sprintf("%d %d", what, got.code)]++
			if got.code != fine {
				continue
			}
			if what == doOpen && got.n != h.last+1 {
				t.Fatalf("Open of %s is %d", h, got.n)
			}
			if h = got.hall; !agreeMay(t, h) {
				t.Fatalf("%s became one that may not be", h)
			}
		}
	}
	for _, what := range []string{"0 0", "0 161", "1 0", "1 162", "2 0", "2 162"} {
		if codes[what] < 200 {
			t.Errorf("%s came %d times: %v", what, codes[what], codes)
		}
	}
}
