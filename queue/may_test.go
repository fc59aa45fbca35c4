package queue_test

import (
	"math/rand"
	"testing"

	"congress/api"
	"congress/queue"
)

// 'May': places in order, out of order, one twice.
func TestMayOrder(t *testing.T) {
	x := send(agreed, 1)
	for name, c := range map[string]struct {
		spots []spot
		want  bool
	}{
		"none":                             {nil, true},
		"one":                              {[]spot{{0, 0, 0}}, true},
		"one of anything":                  {[]spot{{mostRound, leastInt, mostInt}}, true},
		"rising rounds":                    {[]spot{{1, 1, 1}, {2, 1, 1}, {3, 1, 1}}, true},
		"rising rounds, with gaps":         {[]spot{{0, 1, 1}, {7, 1, 1}, {mostRound, 1, 1}}, true},
		"rising daemons":                   {[]spot{{1, 1, 1}, {1, 2, 1}, {1, 7, 1}}, true},
		"rising slots":                     {[]spot{{1, 1, 0}, {1, 1, 1}, {1, 1, 5}}, true},
		"rising rounds, falling daemons":   {[]spot{{1, 7, 1}, {2, 3, 1}, {3, 0, 1}}, true},
		"rising rounds, falling slots":     {[]spot{{1, 1, 9}, {2, 1, 1}, {3, 1, 0}}, true},
		"rising daemons, falling slots":    {[]spot{{1, 1, 9}, {1, 2, 1}, {1, 3, 0}}, true},
		"falling rounds":                   {[]spot{{2, 1, 1}, {1, 1, 1}}, false},
		"falling rounds, rising daemons":   {[]spot{{2, 1, 1}, {1, 7, 7}}, false},
		"falling daemons":                  {[]spot{{1, 2, 1}, {1, 1, 1}}, false},
		"falling daemons, rising slots":    {[]spot{{1, 2, 1}, {1, 1, 7}}, false},
		"falling slots":                    {[]spot{{1, 1, 1}, {1, 1, 0}}, false},
		"the last one falls":               {[]spot{{1, 1, 1}, {2, 1, 1}, {3, 1, 1}, {2, 2, 1}}, false},
		"the first one is too great":       {[]spot{{9, 1, 1}, {2, 1, 1}, {3, 1, 1}}, false},
		"one between":                      {[]spot{{1, 1, 1}, {9, 1, 1}, {3, 1, 1}, {10, 1, 1}}, false},
		"one twice":                        {[]spot{{1, 1, 1}, {1, 1, 1}}, false},
		"the last one twice":               {[]spot{{1, 1, 1}, {2, 1, 1}, {2, 1, 1}}, false},
		"one twice, one between":           {[]spot{{1, 1, 1}, {2, 1, 1}, {1, 1, 1}}, false},
		"0 and the greatest round":         {[]spot{{0, 0, 0}, {mostRound, 0, 0}}, true},
		"the greatest round and 0":         {[]spot{{mostRound, 0, 0}, {0, 0, 0}}, false},
		"the halves of a round's type":     {[]spot{{1<<31 - 1, 0, 0}, {1 << 31, 0, 0}}, true},
		"the least and greatest daemon":    {[]spot{{1, leastInt, 0}, {1, -1, 0}, {1, 0, 0}, {1, mostInt, 0}}, true},
		"the greatest and least daemon":    {[]spot{{1, mostInt, 0}, {1, leastInt, 0}}, false},
		"the least and greatest slot":      {[]spot{{1, 0, leastInt}, {1, 0, -1}, {1, 0, 0}, {1, 0, mostInt}}, true},
		"the greatest and least slot":      {[]spot{{1, 0, mostInt}, {1, 0, leastInt}}, false},
		"0 and -1":                         {[]spot{{1, 0, 0}, {1, -1, 0}}, false},
		"the same in their lower 32 bits":  {[]spot{{1, 2, 0}, {1, 2 + 1<<32, 0}, {1, 2 + 1<<33, 0}}, true},
		"the same in their lower 32, less": {[]spot{{1, 2 + 1<<32, 0}, {1, 2, 0}}, false},
	} {
		var l line
		for _, s := range c.spots {
			l = append(l, item{s, x})
		}
		if got := agreeMay(t, l); got != c.want {
			t.Errorf("%s: %v", name, got)
		}
	}
}

// 'May': a zero entry, wherever it stands, and entries of which one thing alone is
// not zero.
func TestMayZero(t *testing.T) {
	for n := range 6 {
		for at := range n {
			l := few()[:n]
			l[at].slip = slip{}
			if agreeMay(t, l) {
				t.Errorf("%d, of which %d is the zero one", n, at)
			}
			for _, s := range []slip{{kind: 1}, {kind: 1 << 32}, {service: 1}, {service: -1}, {group: 1}, {session: 1}, {session: 1 << 63}, {number: 1}, {number: 1 << 32}, {text: "x"}, {text: "\x00"}} {
				l[at].slip = s
				if !agreeMay(t, l) {
					t.Errorf("%d, of which %d is %+v", n, at, s)
				}
			}
		}
	}
	// A zero entry is one at any place, also the zero one.
	for _, s := range []spot{{}, {1, 1, 1}, {mostRound, mostInt, mostInt}} {
		if agreeMay(t, line{item{s, slip{}}}) {
			t.Errorf("the zero entry at %v", s)
		}
	}
}

// 'May', R5: no queue.
func TestMayNone(t *testing.T) {
	if !queue.May(nil) || !queue.May([]api.Wait{}) {
		t.Error("of none")
	}
}

// 'May': drawn lines.
func TestMayDrawn(t *testing.T) {
	r := rand.New(rand.NewSource(223))
	came := map[bool]int{}
	for range 20000 {
		l := drawnQueue(r, 10)
		if r.Intn(2) == 0 && len(l) > 0 {
			l[r.Intn(len(l))] = item{drawnSpot(r), drawnSlip(r)}
		}
		came[agreeMay(t, l)]++
	}
	if came[true] < 3000 || came[false] < 3000 {
		t.Errorf("came %v", came)
	}
}
