package roster_test

import (
	"fmt"
	"testing"
)

// P17.1: a session's Number is one more, wherever it stands; all else is as it
// was.
func TestNext(t *testing.T) {
	for _, n := range []int{1, 2, 3, 4, 5, 9} {
		h := many(n)
		for at, s := range h.seats {
			got := agreeNext(t, h, s.id)
			want := hall{last: h.last}.with(h.seats...)
			want.seats[at].number++
			if !got.same(answer{want, s.number + 1, fine}) {
				t.Fatalf("Next %d of %s is %v, not %s", s.id, h, got, want)
			}
		}
	}
}

// fewNumbers are Numbers around those at which there is no next one.
var fewNumbers = []uint64{0, 1, 65535, 65536, 1<<31 - 1, 1 << 31, 1<<32 - 3, 1<<32 - 2, 1<<32 - 1, 1 << 32, 1<<32 + 1, 1<<33 - 2, 1 << 63, most - 1, most}

// P17.1: ErrSession at a Number of 2^32 - 1 or more; those of other sessions are
// not asked.
func TestNextNumber(t *testing.T) {
	for _, number := range fewNumbers {
		for _, other := range fewNumbers {
			for at := range 4 {
				h := many(4)
				for i := range h.seats {
					h.seats[i].number = other
				}
				h.seats[at].number = number
				want := fine
				if number > 1<<32-2 {
					want = noSession
				}
				got := agreeNext(t, h, h.seats[at].id)
				isCode(t, fmt.Sprintf("Number %d among %d", number, other), got.code, want)
				if want == fine && got.n != number+1 {
					t.Fatalf("behind Number %d comes %d", number, got.n)
				}
			}
		}
	}
}

// P17.1: of an Id that stands twice the first one's Number tells, and is one
// more.
func TestNextTwice(t *testing.T) {
	for _, id := range []uint64{0, 1, 3, most} {
		for _, first := range fewNumbers {
			for _, second := range fewNumbers {
				h := hall{9, []seat{{7, 7}, {id, first}, {8, 8}, {id, second}}}
				got := agreeNext(t, h, id)
				if first > 1<<32-2 {
					isCode(t, fmt.Sprintf("first %d, second %d", first, second), got.code, noSession)
					continue
				}
				want := hall{9, []seat{{7, 7}, {id, first + 1}, {8, 8}, {id, second}}}
				if !got.same(answer{want, first + 1, fine}) {
					t.Fatalf("Next %d of %s is %v, not %s", id, h, got, want)
				}
			}
		}
	}
}

// P17.1: Last is as it was, whatever it is.
func TestNextLast(t *testing.T) {
	for _, last := range oddNumbers {
		got := agreeNext(t, hall{last, []seat{{last, 4}, {last + 1, 9}}}, last)
		if got.code != fine || got.last != last || got.n != 5 {
			t.Fatalf("last %d: %v", last, got)
		}
	}
}

// P17.1: a session whose Numbers have come to their end may be closed, and is
// there.
func TestEndOfNumbers(t *testing.T) {
	for _, number := range []uint64{1<<32 - 1, 1 << 32, most} {
		h := hall{3, []seat{{1, 0}, {3, number}}}
		isCode(t, "Next", agreeNext(t, h, 3).code, noSession)
		isCode(t, "Close", agreeClose(t, h, 3).code, fine)
		if !agreeHas(t, h, 3) {
			t.Fatal("it is gone")
		}
		isCode(t, "Open", agreeOpen(t, h).code, fine)
	}
}
