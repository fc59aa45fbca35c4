package right_test

import (
	"fmt"
	"slices"
	"testing"
)

// P16.2: the table in which one is revoked, wherever it stands; all else is as
// it was.
func TestRevoke(t *testing.T) {
	for _, many := range []int{1, 2, 3, 15, 16} {
		for at := range many {
			l := hand(many)
			l[many/2].revoked = at != many/2
			got, code := agreeRevoke(t, l, l[at].handle)
			isCode(t, fmt.Sprintf("place %d of %d", at, many), code, fine)
			want := slices.Clone(l)
			want[at].revoked = true
			if !slices.Equal(got, want) {
				t.Fatalf("place %d of %s became %s", at, short(l), short(got))
			}
			_, code = agreeRevoke(t, got, l[at].handle)
			isCode(t, "revoked already", code, noRight)
		}
	}
}

// P16.2: one after the other all are revoked.
func TestRevokeAll(t *testing.T) {
	l := hand(16)
	for _, at := range []int{15, 0, 7, 8, 1, 14, 2, 3, 4, 5, 6, 9, 10, 11, 12, 13} {
		var code int
		l, code = agreeRevoke(t, l, l[at].handle)
		isCode(t, "one more", code, fine)
	}
	for _, c := range l {
		if !c.revoked {
			t.Fatalf("left is %s", c)
		}
		_, code := agreeRevoke(t, l, c.handle)
		isCode(t, "all are revoked", code, noRight)
	}
}

// P16.2: ErrRight at a handle that is not there.
func TestRevokeNone(t *testing.T) {
	for _, many := range []int{0, 1, 16} {
		for _, handle := range append([]uint64{99, 116, 1000}, oddNumbers...) {
			got, code := agreeRevoke(t, hand(many), handle)
			if code != noRight || len(got) != 0 {
				t.Fatalf("%d in %d: error %d and %s", handle, many, code, short(got))
			}
		}
	}
	for _, handle := range oddNumbers {
		for _, other := range near(handle) {
			_, code := agreeRevoke(t, []card{{handle, 1, 7, false}}, other)
			isCode(t, fmt.Sprintf("%d beside %d", other, handle), code, noRight)
		}
	}
}

// P16.2: of a handle that stands twice only the first one is revoked; the second
// one is out of reach.
func TestRevokeTwice(t *testing.T) {
	for _, second := range []bool{false, true} {
		l := []card{{5, 1, 7, false}, {9, 1, 7, false}, {6, 2, 3, false}, {9, 2, 7, second}}
		got, code := agreeRevoke(t, l, 9)
		isCode(t, "the first", code, fine)
		if !got[1].revoked || got[3].revoked != second {
			t.Fatalf("became %s", short(got))
		}
		_, code = agreeRevoke(t, got, 9)
		isCode(t, "the first was revoked", code, noRight)
	}
}

// P16.2: those that are not for a session, in order, revoked or not.
func TestDrop(t *testing.T) {
	for _, session := range oddNumbers {
		other, third := session+1, session^1<<32
		for _, c := range []struct {
			name string
			l    []card
			left []int
		}{
			{"empty", nil, nil},
			{"none", []card{{1, other, 1, false}, {2, third, 2, true}}, []int{0, 1}},
			{"all", []card{{1, session, 1, false}, {2, session, 2, true}, {3, session, 7, false}}, nil},
			{"one, alone", []card{{1, session, 1, false}}, nil},
			{"the first", []card{{1, session, 1, false}, {2, other, 2, true}, {3, third, 7, false}}, []int{1, 2}},
			{"the last", []card{{1, third, 1, true}, {2, other, 2, false}, {3, session, 7, false}}, []int{0, 1}},
			{"one between", []card{{1, third, 1, true}, {2, session, 2, false}, {3, other, 7, false}}, []int{0, 2}},
			{"some", []card{{4, session, 1, true}, {3, other, 2, false}, {2, session, 2, false}, {9, third, 7, false}, {8, session, 1, false}, {1, other, 4, true}}, []int{1, 3, 5}},
			{"the handle of another", []card{{session, other, 1, false}, {other, session, 1, false}}, []int{0}},
		} {
			var want []card
			for _, i := range c.left {
				want = append(want, c.l[i])
			}
			if got := agreeDrop(t, c.l, session); !slices.Equal(got, want) {
				t.Errorf("%s of %d: %s is left, not %s", c.name, session, short(got), short(want))
			}
		}
		for _, other := range near(session) {
			if got := agreeDrop(t, []card{{9, session, 7, false}}, other); len(got) != 1 {
				t.Errorf("Drop %d leaves %s of session %d", other, short(got), session)
			}
		}
	}
}

// P16.2: of a full table, and of one with too many, each session is dropped.
func TestDropMany(t *testing.T) {
	for _, many := range []int{15, 16, 17, 1000} {
		l := hand(many)
		for session := range uint64(5) {
			got := agreeDrop(t, l, session)
			if again := agreeDrop(t, got, session); !slices.Equal(again, got) {
				t.Fatalf("dropped again %s became %s", short(got), short(again))
			}
		}
	}
}
