package roster_test

import (
	"fmt"
	"testing"

	"congress/api"
	"congress/roster"
)

// The errors' numbers are those that the chapter says.
func TestErrorNumbers(t *testing.T) {
	if api.OK != fine || api.ErrFull != full || api.ErrSession != noSession || api.MaxSessions != 4 {
		t.Fatal(api.OK, api.ErrFull, api.ErrSession, api.MaxSessions)
	}
}

// The chapter's examples.
func TestExamples(t *testing.T) {
	var r api.Roster
	open := func(want uint64) {
		t.Helper()
		next, id, e := roster.Open(r)
		if id != want || e != api.OK {
			t.Fatalf("Open of %v is %d, error %d, not %d", r, id, e, want)
		}
		r = next
	}
	open(1)
	open(2)
	next, e := roster.Close(r, 1)
	if e != api.OK {
		t.Fatalf("Close 1 of %v: error %d", r, e)
	}
	r = next
	open(3)
	if h, want := hallOf(r), (hall{3, []seat{{2, 0}, {3, 0}}}); !h.same(want) {
		t.Fatalf("left is %s, not %s", h, want)
	}
}

// P17.1: a session of the Id that is one above Last, Number 0, stands behind the
// others, which are as they were.
func TestOpenBehind(t *testing.T) {
	for n := range 4 {
		for _, last := range []uint64{0, 1, 2, 13, 255, 256, 32767, 32768, 65533, 65534} {
			h := many(n)
			h.last = last
			got := agreeOpen(t, h)
			want := answer{hall{last + 1, h.with(seat{last + 1, 0}).seats}, last + 1, fine}
			if !got.same(want) {
				t.Fatalf("Open of %s is %v, not %v", h, got, want)
			}
		}
	}
}

// P17.1: ErrFull at 4 sessions or more.
func TestOpenMany(t *testing.T) {
	for n, want := range map[int]int{0: fine, 1: fine, 2: fine, 3: fine, 4: full, 5: full, 6: full, 16: full, 256: full, 257: full, 5000: full} {
		h := many(n)
		h.last = 20000
		isCode(t, fmt.Sprintf("in %d", n), agreeOpen(t, h).code, want)
		for _, last := range []uint64{0, 65534, 65535, 65536, most} {
			h.last = last
			agreeOpen(t, h)
		}
	}
}

// P17.1: ErrFull at a Last of 65535 or more.
func TestOpenLast(t *testing.T) {
	for n := range 7 {
		for _, last := range append([]uint64{65538, 1 << 17, 1<<17 - 1, 1<<32 + 65534, most - 65535}, oddNumbers...) {
			want := full
			if n < 4 && last < 65535 {
				want = fine
			}
			h := many(n)
			h.last = last
			isCode(t, fmt.Sprintf("in %d, last %d", n, last), agreeOpen(t, h).code, want)
		}
	}
	isCode(t, "nothing, last 65534", agreeOpen(t, hall{last: 65534}).code, fine)
	isCode(t, "nothing, last 65535", agreeOpen(t, hall{last: 65535}).code, full)
}

// P17.1: it goes by Last alone, whatever Ids stand, were the new one among them.
func TestOpenOddIds(t *testing.T) {
	for _, id := range oddNumbers {
		for _, last := range []uint64{0, 1, 2, 65534} {
			got := agreeOpen(t, hall{last, []seat{{id, id}, {last + 1, 9}}})
			if got.code != fine || got.n != last+1 || got.seats[2] != (seat{last + 1, 0}) {
				t.Fatalf("Open behind Id %d, last %d, is %v", id, last, got)
			}
		}
	}
}

// P17.1, R3: two openings of one roster are the same, and share nothing: what is
// done to the one is not seen in the other.
func TestTwoOpenings(t *testing.T) {
	for n := range 3 {
		r := rosterOf(many(n))
		one, id, _ := roster.Open(r)
		other, same, _ := roster.Open(r)
		third, _, e := roster.Open(one)
		sent, number, f := roster.Next(one, id)
		if e != api.OK || f != api.OK || id != same || number != 1 {
			t.Fatal(e, f, id, same, number)
		}
		want := many(n).with(seat{id, 0})
		want.last++
		left, e := roster.Close(one, id)
		if e != api.OK || !hallOf(one).same(want) || !hallOf(other).same(want) {
			t.Fatalf("opened %s and %s, not %s", hallOf(one), hallOf(other), want)
		}
		if sent.List[n].Number != 1 || len(left.List) != n || len(third.List) != n+2 || third.List[n].Number != 0 {
			t.Fatalf("became %v, %v, %v", sent, left, third)
		}
	}
}
