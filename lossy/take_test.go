package lossy_test

import (
	"math"
	"math/rand"
	"slices"
	"testing"

	"congress/api"
	"congress/lossy"
)

// P14.2: the chapter's examples.
func TestExamples(t *testing.T) {
	l := row(0, 1, "a", "b", "c")
	for index, want := range map[int]string{4: "b", -1: "c"} {
		place, ok := agreeFind(t, l, 0, 1, index)
		if !ok || l[place].text != want {
			t.Errorf("Find of index %d: %d, %v", index, place, ok)
		}
		left, x, ok := agreeTake(t, l, 0, 1, index)
		if !ok || x.text != want || len(left) != 2 {
			t.Errorf("Take of index %d: %v, %v, %v", index, left, x, ok)
		}
	}
}

// P14.2: the places that indexes name, told one by one.
func TestFind(t *testing.T) {
	l := slices.Concat(row(1, 0, "x"), row(0, 1, "a"), row(2, 1, "y"), row(0, 2, "y"), row(0, 1, "b"), row(0, 1, "c"), row(1, 0, "z"))
	for _, c := range []struct{ index, want int }{
		{0, 1}, {1, 4}, {2, 5}, {3, 1}, {4, 4}, {5, 5}, {6, 1}, {299, 5}, {300, 1},
		{-1, 5}, {-2, 4}, {-3, 1}, {-4, 5}, {-6, 1}, {-300, 1}, {-301, 5},
		// 2^63 - 1 is 1 by 3, and -2^63 is 1 by 3 from 0 on.
		{math.MaxInt, 4}, {math.MinInt, 4}, {math.MaxInt - 1, 1}, {math.MinInt + 1, 5},
	} {
		if place, ok := agreeFind(t, l, 0, 1, c.index); !ok || place != c.want {
			t.Errorf("index %d: %d, %v, not %d", c.index, place, ok, c.want)
		}
	}
	for _, c := range []struct{ from, to, index, want int }{
		{1, 0, 0, 0}, {1, 0, 1, 6}, {1, 0, 2, 0}, {1, 0, -1, 6}, {2, 1, 0, 2}, {2, 1, 1, 2}, {2, 1, -1, 2}, {0, 2, 55, 3},
	} {
		if place, ok := agreeFind(t, l, c.from, c.to, c.index); !ok || place != c.want {
			t.Errorf("from %d to %d, index %d: %d, %v", c.from, c.to, c.index, place, ok)
		}
	}
}

// P14.2: a link with no letter has nothing to find and to take, and what is left
// is the list as it was.
func TestNone(t *testing.T) {
	for name, l := range spread() {
		for _, k := range []link{{1, 2}, {7, 7}, {3, 0}} {
			for _, index := range indexes(len(l)) {
				if place, ok := agreeFind(t, l, k.from, k.to, index); place != 0 || ok {
					t.Errorf("%s: Find is %d, %v", name, place, ok)
				}
				if left, x, ok := agreeTake(t, l, k.from, k.to, index); !slices.Equal(left, l) || x != (slip{}) || ok {
					t.Errorf("%s: Take is %v, %v, %v", name, left, x, ok)
				}
			}
		}
	}
}

// P14.2: all edges of an index, over links with none, one and several letters,
// with other links' letters about them.
func TestFindAndTakeEdges(t *testing.T) {
	for name, l := range spread() {
		many := agreeMany(t, l, 0, 1)
		for _, index := range indexes(many) {
			place, ok := agreeFind(t, l, 0, 1, index)
			left, x, is := agreeTake(t, l, 0, 1, index)
			if ok != (many > 0) || is != ok {
				t.Errorf("%s: index %d of %d: %v and %v", name, index, many, ok, is)
			}
			if !ok {
				continue
			}
			if x != l[place] || x.link != (link{0, 1}) || !slices.Equal(left, slices.Concat(l[:place], l[place+1:])) {
				t.Errorf("%s: index %d: %v is taken, and leaves %v", name, index, x, left)
			}
			if agreeMany(t, left, 0, 1) != many-1 {
				t.Errorf("%s: index %d: more than one was taken", name, index)
			}
		}
	}
}

// P14.2: the first and the last one of a list, and the only one.
func TestTakeEnds(t *testing.T) {
	l := slices.Concat(row(0, 1, "a"), row(1, 0, "x", "y"), row(2, 0, "z"))
	for _, c := range []struct {
		from, to, index int
		want            slip
		left            []slip
	}{
		{0, 1, 0, l[0], l[1:]},
		{0, 1, -1, l[0], l[1:]},
		{2, 0, 0, l[3], l[:3]},
		{2, 0, 1, l[3], l[:3]},
		{1, 0, 0, l[1], slices.Concat(l[:1], l[2:])},
		{1, 0, 1, l[2], slices.Concat(l[:2], l[3:])},
	} {
		if left, x, ok := agreeTake(t, l, c.from, c.to, c.index); !ok || x != c.want || !slices.Equal(left, c.left) {
			t.Errorf("from %d to %d, index %d: %v, %v, %v", c.from, c.to, c.index, left, x, ok)
		}
	}
	if left, x, ok := agreeTake(t, l[:1], 0, 1, 0); !ok || x != l[0] || len(left) != 0 {
		t.Errorf("the only one: %v, %v, %v", left, x, ok)
	}
	turned := []slip{{link{3, 3}, "t", true}}
	if left, x, ok := agreeTake(t, turned, 3, 3, 9); !ok || x != turned[0] || len(left) != 0 {
		t.Errorf("a turned one: %v, %v, %v", left, x, ok)
	}
}

// P1, R5: nil and empty lists have no letter, whatever is asked for.
func TestNothingUnderWay(t *testing.T) {
	for _, l := range [][]api.Letter{nil, {}, make([]api.Letter, 0, 4)} {
		for _, k := range append([]int{0, 1, 7}, strangers...) {
			for _, index := range indexes(0) {
				if place, ok := lossy.Find(l, k, 1, index); place != 0 || ok {
					t.Errorf("Find: %d, %v", place, ok)
				}
				if left, x, ok := lossy.Take(l, k, 1, index); len(left) != 0 || x != (api.Letter{}) || ok {
					t.Errorf("Take: %v, %v, %v", left, x, ok)
				}
				if got := lossy.Turn(l, k, 1, index, 0, math.MaxUint32); len(got) != 0 {
					t.Errorf("Turn: %v", got)
				}
			}
		}
	}
}

// P1: numbers of no daemon are links like others, of which most have no letter.
func TestStrangers(t *testing.T) {
	l := crowd(20)
	for _, from := range strangers {
		for _, to := range append([]int{0, 1}, strangers...) {
			for _, k := range []link{{from, to}, {to, from}} {
				for _, index := range indexes(1) {
					if place, ok := agreeFind(t, l, k.from, k.to, index); place != 0 || ok {
						t.Errorf("%v: Find is %d, %v", k, place, ok)
					}
					if left, x, ok := agreeTake(t, l, k.from, k.to, index); !slices.Equal(left, l) || x != (slip{}) || ok {
						t.Errorf("%v: Take is %v, %v", k, x, ok)
					}
					if got := agreeTurn(t, l, k.from, k.to, index, 0, 1); !slices.Equal(got, l) {
						t.Errorf("%v: Turn is %v", k, got)
					}
				}
				theirs := slices.Concat(l, row(k.from, k.to, "a", "b"), l)
				if place, ok := agreeFind(t, theirs, k.from, k.to, -1); place != 21 || !ok {
					t.Errorf("%v: Find is %d, %v", k, place, ok)
				}
			}
		}
	}
}

// P14.2: a list that is longer than may be under way is gone through whole, and
// what is taken leaves all of the rest.
func TestTakeLong(t *testing.T) {
	l := slices.Concat(crowd(5000), row(5, 6, "a"), crowd(3000), row(5, 6, "b"))
	if place, ok := agreeFind(t, l, 5, 6, 0); place != 5000 || !ok {
		t.Errorf("Find: %d, %v", place, ok)
	}
	if left, x, ok := agreeTake(t, l, 5, 6, -1); len(left) != 8001 || x.text != "b" || !ok {
		t.Errorf("Take: %d letters, %v, %v", len(left), x, ok)
	}
	if left, _, ok := agreeTake(t, l, 6, 5, 0); len(left) != 8002 || ok {
		t.Errorf("Take of nothing: %d letters, %v", len(left), ok)
	}
}

// P14.2: drawn letters and indexes.
func TestFindAndTakeDrawn(t *testing.T) {
	r := rand.New(rand.NewSource(142))
	for range 4000 {
		var l []slip
		for range r.Intn(16) {
			l = append(l, slip{drawnLink(r), drawnText(r), r.Intn(4) == 0})
		}
		for range 3 {
			k := drawnLink(r)
			if len(l) > 0 && r.Intn(4) > 0 {
				k = l[r.Intn(len(l))].link
			}
			index := drawnIndex(r, agreeMany(t, l, k.from, k.to))
			agreeFind(t, l, k.from, k.to, index)
			agreeTake(t, l, k.from, k.to, index)
		}
	}
}
