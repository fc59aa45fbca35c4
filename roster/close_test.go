package roster_test

import (
	"fmt"
	"slices"
	"testing"
)

// P17.1: without one session, wherever it stands: the first, one between, the
// last, the only one. The others and Last are as they were.
func TestClose(t *testing.T) {
	for _, n := range []int{1, 2, 3, 4, 5, 9} {
		h := many(n)
		for at, s := range h.seats {
			got := agreeClose(t, h, s.id)
			want := hall{h.last, slices.Delete(slices.Clone(h.seats), at, at+1)}
			if got.code != fine || !got.hall.same(want) {
				t.Fatalf("Close %d of %s is %v, not %s", s.id, h, got, want)
			}
			isCode(t, "closed already", agreeClose(t, got.hall, s.id).code, noSession)
			if agreeHas(t, got.hall, s.id) {
				t.Fatalf("%d is closed, and stands in %s", s.id, got.hall)
			}
		}
	}
}

// P17.1: Last stays as it is, whatever it is, also without a session.
func TestCloseLast(t *testing.T) {
	for _, last := range oddNumbers {
		got := agreeClose(t, hall{last, []seat{{1, 5}}}, 1)
		if got.code != fine || got.last != last || len(got.seats) != 0 {
			t.Fatalf("the only one of last %d: %v", last, got)
		}
		got = agreeClose(t, hall{last, []seat{{last, 5}, {last + 1, most}}}, last)
		if got.code != fine || got.last != last || len(got.seats) != 1 || got.seats[0] != (seat{last + 1, most}) {
			t.Fatalf("the Id of last %d: %v", last, got)
		}
	}
}

// P17.1: ErrSession at an Id that is not there.
func TestNone(t *testing.T) {
	for n := range 6 {
		h := many(n)
		for _, id := range append([]uint64{4, h.last, h.last + 1, h.last + 4}, oddNumbers...) {
			if id == 2 && n > 0 {
				continue
			}
			isCode(t, fmt.Sprintf("Close %d in %s", id, h), agreeClose(t, h, id).code, noSession)
			isCode(t, fmt.Sprintf("Next %d in %s", id, h), agreeNext(t, h, id).code, noSession)
			if agreeHas(t, h, id) {
				t.Fatalf("%s has %d", h, id)
			}
		}
	}
}

// P17.1: an Id is another one than those near to it, and those with many of its
// bits; any may stand.
func TestOtherId(t *testing.T) {
	for _, id := range oddNumbers {
		h := hall{most, []seat{{id, 3}}}
		isCode(t, fmt.Sprintf("Close %d", id), agreeClose(t, h, id).code, fine)
		isCode(t, fmt.Sprintf("Next %d", id), agreeNext(t, h, id).code, fine)
		if !agreeHas(t, h, id) {
			t.Fatalf("%s has no %d", h, id)
		}
		for _, other := range near(id) {
			isCode(t, fmt.Sprintf("Close %d beside %d", other, id), agreeClose(t, h, other).code, noSession)
			isCode(t, fmt.Sprintf("Next %d beside %d", other, id), agreeNext(t, h, other).code, noSession)
			if agreeHas(t, h, other) {
				t.Fatalf("%s has %d", h, other)
			}
		}
	}
}

// P17.1: a session's Number is no Id, and Last is none.
func TestNumberIsNoId(t *testing.T) {
	h := hall{9, []seat{{2, 5}, {3, 7}}}
	for _, id := range []uint64{5, 7, 9, 0, 1} {
		isCode(t, "Close", agreeClose(t, h, id).code, noSession)
		isCode(t, "Next", agreeNext(t, h, id).code, noSession)
		agreeHas(t, h, id)
	}
}

// P17.1: of an Id that stands twice the first one is closed; the other one
// stays, and may be closed then.
func TestCloseTwice(t *testing.T) {
	for _, id := range []uint64{0, 1, 6, 65535, most} {
		for between := range 4 {
			h := hall{9, slices.Concat([]seat{{7, 7}, {id, 1}}, many(between).seats, []seat{{id, 2}, {4, 4}})}
			one := agreeClose(t, h, id)
			isCode(t, "the first", one.code, fine)
			if at := slices.IndexFunc(one.seats, func(s seat) bool { return s.id == id }); at != 1+between || one.seats[at].number != 2 {
				t.Fatalf("Close %d of %s is %s", id, h, one.hall)
			}
			if !agreeHas(t, one.hall, id) {
				t.Fatal("none is left")
			}
			two := agreeClose(t, one.hall, id)
			isCode(t, "the second", two.code, fine)
			isCode(t, "no third", agreeClose(t, two.hall, id).code, noSession)
		}
	}
}
