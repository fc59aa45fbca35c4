package lossy_test

import (
	"math/rand"
	"slices"
	"strconv"
	"testing"

	"congress/api"
	"congress/lossy"
)

// P14.1: few letters, put to none and to some.
func TestPut(t *testing.T) {
	a, b := row(0, 1, "a"), row(1, 0, "b")
	turned := []slip{{link{2, 3}, "t", true}}
	for _, c := range []struct {
		name       string
		l, x, want []slip
	}{
		{"nothing to nothing", nil, nil, nil},
		{"empty to empty", []slip{}, []slip{}, nil},
		{"one to nothing", nil, a, a},
		{"nothing to one", a, nil, a},
		{"one to one", a, b, slices.Concat(a, b)},
		{"the other way", b, a, slices.Concat(b, a)},
		{"the same one again", a, a, slices.Concat(a, a)},
		{"many to one", a, crowd(9), slices.Concat(a, crowd(9))},
		{"one to many", crowd(9), a, slices.Concat(crowd(9), a)},
		{"turned ones", turned, slices.Concat(a, turned), slices.Concat(turned, a, turned)},
		{"the zero one", a, []slip{{}}, []slip{a[0], {}}},
		{"of strangers", row(-1, 8, "s"), row(9, -5, "s", ""), slices.Concat(row(-1, 8, "s"), row(9, -5, "s", ""))},
	} {
		if got := agreePut(t, c.l, c.x); !slices.Equal(got, c.want) {
			t.Errorf("%s: %v", c.name, got)
		}
	}
}

// P14.1: nil, empty lists, and none at all are the same.
func TestPutNothing(t *testing.T) {
	for _, l := range [][]api.Letter{nil, {}, make([]api.Letter, 0, 5)} {
		if len(lossy.Put(l)) != 0 || len(lossy.Put(l, nil...)) != 0 || len(lossy.Put(l, l...)) != 0 {
			t.Error("Put of nothing")
		}
		if got := lossy.Put(l, api.Letter{From: 4}); len(got) != 1 || got[0] != (api.Letter{From: 4}) {
			t.Errorf("Put of one: %v", got)
		}
	}
}

// P14.1: as many as there is room for, one less and one more, and far more; of
// a list that is too long already as many are left as may be, and nothing is put
// behind them.
func TestPutRoom(t *testing.T) {
	for _, c := range []struct{ had, put, want int }{
		{0, 4095, 4095}, {0, 4096, 4096}, {0, 4097, 4096}, {0, 9000, 4096},
		{1, 4094, 4095}, {1, 4095, 4096}, {1, 4096, 4096},
		{100, 3995, 4095}, {100, 3996, 4096}, {100, 3997, 4096}, {100, 5000, 4096},
		{4094, 0, 4094}, {4094, 1, 4095}, {4094, 2, 4096}, {4094, 3, 4096},
		{4095, 0, 4095}, {4095, 1, 4096}, {4095, 2, 4096}, {4095, 100, 4096},
		{4096, 0, 4096}, {4096, 1, 4096}, {4096, 5000, 4096},
		{4097, 0, 4096}, {4097, 1, 4096}, {5000, 0, 4096}, {5000, 3, 4096}, {9000, 9000, 4096},
	} {
		l := crowd(c.had)
		x := crowd(c.put)
		for i := range x {
			x[i].text = "put " + strconv.Itoa(i)
		}
		got := agreePut(t, l, x)
		if want := slices.Concat(l, x)[:c.want]; !slices.Equal(got, want) {
			t.Errorf("%d to %d: %d letters", c.put, c.had, len(got))
		}
	}
}

// R4: letters that stand in the list itself, and in the room behind it, are put
// as they were, and stay.
func TestPutOfItself(t *testing.T) {
	list := lettersOf(row(0, 1, "a", "b", "c", "d", "e"))
	was := slices.Clone(list)
	for _, c := range []struct {
		name string
		l, x []api.Letter
	}{
		{"itself", list, list},
		{"a piece of it", list, list[1:3]},
		{"what stands behind it", list[:2], list[2:]},
		{"in another order", list[:2], list[3:]},
		{"what stands ahead", list[3:], list[:3]},
		{"what overlaps", list[:3], list[1:]},
	} {
		want := slices.Concat(c.l, c.x)
		got := lossy.Put(c.l, c.x...)
		if !slices.Equal(got, want) || !slices.Equal(list, was) {
			t.Errorf("%s: %v, behind it %v", c.name, got, list)
		}
		spoil(got)
		if !slices.Equal(list, was) {
			t.Errorf("%s: the answer shares memory", c.name)
		}
	}
}

// R4: two answers share no memory with each other, and neither does one with the
// list that it was put to.
func TestPutTwice(t *testing.T) {
	base := lossy.Put(nil, lettersOf(crowd(5))...)
	one := lossy.Put(base, api.Letter{Text: "one"})
	two := lossy.Put(base, api.Letter{Text: "two"})
	if one[5].Text != "one" || two[5].Text != "two" || len(base) != 5 {
		t.Errorf("Put to the same list: %v, %v", one, two)
	}
	spoil(two)
	if !slices.Equal(one[:5], base) || one[5].Text != "one" {
		t.Errorf("two answers share memory: %v", one)
	}
}

// P14.1: no letter, one and several, from and to exchanged, and the same one.
func TestMany(t *testing.T) {
	l := slices.Concat(row(0, 1, "a"), row(1, 0, "x"), row(0, 1, "a", ""), row(2, 2, "s", "s"), row(7, 0, "y"), row(0, 7, "z", "z", "z", "z"))
	for _, c := range []struct{ from, to, want int }{
		{0, 1, 3}, {1, 0, 1}, {2, 2, 2}, {7, 0, 1}, {0, 7, 4},
		{0, 0, 0}, {1, 1, 0}, {7, 7, 0}, {0, 2, 0}, {2, 0, 0}, {1, 2, 0}, {2, 1, 0},
	} {
		if got := agreeMany(t, l, c.from, c.to); got != c.want {
			t.Errorf("Many from %d to %d: %d", c.from, c.to, got)
		}
	}
	lists := spread()
	for _, l := range lists {
		for from := range 3 {
			for to := range 3 {
				agreeMany(t, l, from, to)
			}
		}
	}
	for name, want := range map[string]int{"nothing": 0, "none": 0, "one, between": 1, "several, between": 5, "some turned": 3} {
		if got := agreeMany(t, lists[name], 0, 1); got != want {
			t.Errorf("%s: %d", name, got)
		}
	}
}

// P14.1: a list that is longer than may be under way is counted whole.
func TestManyLong(t *testing.T) {
	l := slices.Concat(make([]slip, 5000), row(0, 1, "a"), make([]slip, 4000))
	if agreeMany(t, l, 0, 0) != 9000 || agreeMany(t, l, 0, 1) != 1 {
		t.Error("Many of a long list")
	}
}

// P14.1: numbers of no daemon are links like others.
func TestManyStrangers(t *testing.T) {
	for _, from := range strangers {
		for _, to := range append([]int{0, 1}, strangers...) {
			if lossy.Many(nil, from, to) != 0 || agreeMany(t, crowd(30), from, to) != 0 || agreeMany(t, crowd(30), to, from) != 0 {
				t.Errorf("Many from %d to %d", from, to)
			}
			l := slices.Concat(row(from, to, "a", "b"), crowd(10))
			if got := agreeMany(t, l, from, to); got != 2 {
				t.Errorf("Many from %d to %d: %d", from, to, got)
			}
		}
	}
}

// P14.1: drawn letters.
func TestPutManyDrawn(t *testing.T) {
	r := rand.New(rand.NewSource(141))
	drawn := func() []slip {
		var l []slip
		for range r.Intn(12) {
			l = append(l, slip{drawnLink(r), drawnText(r), r.Intn(4) == 0})
		}
		return l
	}
	for range 4000 {
		l := agreePut(t, drawn(), drawn())
		k := drawnLink(r)
		agreeMany(t, l, k.from, k.to)
		for _, s := range l {
			agreeMany(t, l, s.from, s.to)
			agreeMany(t, l, s.to, s.from)
		}
	}
}
