package audit_test

import (
	"fmt"
	"math/rand"
	"slices"
	"testing"

	"congress/api"
	"congress/audit"
)

// book of ticks alone, numbered from 1 on.
func ticks(list ...uint32) book {
	var b book
	for i, tick := range list {
		b = append(b, note{uint64(i + 1), tick, fmt.Sprint("call ", i), i % 3})
	}
	return b
}

// book of numbers alone, all of one tick.
func numbers(list ...uint64) book {
	var b book
	for _, n := range list {
		b = append(b, note{number: n, tick: 5})
	}
	return b
}

// P20.1: to nothing, behind one record and behind some; a tick below the last
// one's, the same, above it, 0 and the greatest; lists that are no audit.
func TestAdd(t *testing.T) {
	for name, x := range map[string]struct {
		given book
		tick  uint32
		want  note
	}{
		"to nothing":                           {nil, 7, note{number: 1, tick: 7}},
		"to nothing, 0":                        {nil, 0, note{number: 1, tick: 0}},
		"to nothing, the greatest":             {nil, mostTick, note{number: 1, tick: mostTick}},
		"behind one, below":                    {ticks(7), 6, note{number: 2, tick: 7}},
		"behind one, the same":                 {ticks(7), 7, note{number: 2, tick: 7}},
		"behind one, above":                    {ticks(7), 8, note{number: 2, tick: 8}},
		"behind one, 0":                        {ticks(7), 0, note{number: 2, tick: 7}},
		"behind one, the greatest":             {ticks(7), mostTick, note{number: 2, tick: mostTick}},
		"behind one of 0":                      {ticks(0), 0, note{number: 2, tick: 0}},
		"behind one of the greatest, 0":        {ticks(mostTick), 0, note{number: 2, tick: mostTick}},
		"behind one of the greatest, below":    {ticks(mostTick), mostTick - 1, note{number: 2, tick: mostTick}},
		"behind one of the greatest, the same": {ticks(mostTick), mostTick, note{number: 2, tick: mostTick}},
		"behind some, below the last alone":    {ticks(1, 2, 9), 8, note{number: 4, tick: 9}},
		"behind some, above":                   {ticks(1, 2, 9), 10, note{number: 4, tick: 10}},
		"behind some, the same":                {ticks(1, 9, 9), 9, note{number: 4, tick: 9}},
		"high bits":                            {ticks(1<<31 - 1), 1 << 31, note{number: 2, tick: 1 << 31}},
		"no audit: ticks that fall":            {ticks(9, 3), 5, note{number: 3, tick: 5}},
		"no audit: ticks that fall, below":     {ticks(9, 3), 2, note{number: 3, tick: 3}},
		"no audit: numbers from 0 on":          {numbers(0, 1), 5, note{number: 3, tick: 5}},
		"no audit: numbers from 2 on":          {numbers(2), 5, note{number: 2, tick: 5}},
		"no audit: the greatest number":        {numbers(1, most), 4, note{number: 3, tick: 5}},
		"no audit: one number twice":           {numbers(1, 1, 1), 6, note{number: 4, tick: 6}},
	} {
		for _, call := range oddCalls {
			for _, code := range oddCodes {
				got := agreeAdd(t, x.given, x.tick, call, code)
				want := note{x.want.number, x.want.tick, call, code}
				if len(got) != len(x.given)+1 || got[len(got)-1] != want || !got[:len(x.given)].same(x.given) {
					t.Fatalf("%s: %s, not %+v behind %s", name, got, want, x.given)
				}
			}
		}
	}
}

// P20.1: nothing, one record; numbers that begin at 0, 1 or 2, that leave one
// out, that stand twice; ticks that rise, stay, fall; the greatest of each type.
func TestCheck(t *testing.T) {
	for name, x := range map[string]struct {
		given book
		want  bool
	}{
		"nothing":                           {nil, true},
		"one of 0":                          {numbers(0), false},
		"one of 1":                          {numbers(1), true},
		"one of 2":                          {numbers(2), false},
		"one of the greatest":               {numbers(most), false},
		"one, 2^32 above":                   {numbers(1<<32 + 1), false},
		"from 0 on":                         {numbers(0, 1, 2), false},
		"from 1 on":                         {numbers(1, 2, 3), true},
		"from 2 on":                         {numbers(2, 3, 4), false},
		"from the greatest on":              {numbers(most, 0, 1), false},
		"one left out":                      {numbers(1, 3), false},
		"one left out, later":               {numbers(1, 2, 4), false},
		"one twice":                         {numbers(1, 1), false},
		"one twice, later":                  {numbers(1, 2, 2, 3), false},
		"one twice, one left out":           {numbers(1, 2, 2, 4), false},
		"falling":                           {numbers(3, 2, 1), false},
		"two changed about":                 {numbers(1, 3, 2), false},
		"the last one 0":                    {numbers(1, 2, 0), false},
		"the last one the greatest":         {numbers(1, 2, most), false},
		"the last one 2^32 above":           {numbers(1, 2, 1<<32+3), false},
		"a tick of 0":                       {ticks(0), true},
		"the greatest tick":                 {ticks(mostTick), true},
		"ticks that rise":                   {ticks(0, 1, 7, mostTick), true},
		"ticks that stay":                   {ticks(7, 7, 7), true},
		"ticks that stay at 0":              {ticks(0, 0), true},
		"ticks that stay at the greatest":   {ticks(mostTick, mostTick), true},
		"ticks that fall":                   {ticks(7, 6), false},
		"ticks that fall to 0":              {ticks(1, 0), false},
		"ticks that fall from the greatest": {ticks(mostTick, mostTick-1), false},
		"ticks that wrap round":             {ticks(mostTick, 0), false},
		"ticks that fall in high bits":      {ticks(1<<31, 1<<31-1), false},
		"ticks that rise in high bits":      {ticks(1<<31-1, 1<<31), true},
		"ticks that fall late":              {ticks(1, 2, 3, 2), false},
		"ticks that fall and rise again":    {ticks(1, 5, 4, 6), false},
		"ticks that rise above the first":   {ticks(3, 9, 4), false},
	} {
		if got := agreeCheck(t, x.given); got != x.want {
			t.Errorf("%s: %v", name, got)
		}
		for _, call := range oddCalls {
			for _, code := range oddCodes {
				b := slices.Clone(x.given)
				for i := range b {
					b[i].call, b[i].code = call, code
				}
				if got := agreeCheck(t, b); got != x.want {
					t.Errorf("%s, of %q, %d: %v", name, call, code, got)
				}
			}
		}
	}
}

// P20.1: how many records have a Code that is not 0, of any records.
func TestFailed(t *testing.T) {
	for _, x := range []struct {
		codes []int
		want  int
	}{
		{nil, 0},
		{[]int{0}, 0},
		{[]int{1}, 1},
		{[]int{-1}, 1},
		{[]int{leastInt}, 1},
		{[]int{mostInt}, 1},
		{[]int{1 << 32}, 1},
		{[]int{0, 0, 0}, 0},
		{[]int{0, 160, 0}, 1},
		{[]int{160, 0, 0}, 1},
		{[]int{0, 0, 160}, 1},
		{[]int{1, 1}, 2},
		{[]int{1, -1}, 2},
		{oddCodes, len(oddCodes) - 1},
	} {
		var b book
		for i, code := range x.codes {
			b = append(b, note{uint64(len(x.codes) - i), uint32(i), "", code})
		}
		agreeCheck(t, b)
		if got := audit.Failed(listOf(b)); got != x.want {
			t.Errorf("Failed of %v is %d, not %d", x.codes, got, x.want)
		}
	}
}

// P20.1: drawn books, audits and others.
func TestDrawnAdds(t *testing.T) {
	came := map[bool]int{}
	for seed := range int64(3000) {
		r := rand.New(rand.NewSource(2010 + seed))
		b := drawnBook(r, 8)
		came[agreeCheck(t, b)]++
		tick := drawnTick(r)
		if len(b) > 0 && r.Intn(2) == 0 {
			tick = b[len(b)-1].tick + uint32(r.Intn(3)) - 1
		}
		agreeCheck(t, agreeAdd(t, b, tick, drawnCall(r), drawnCode(r)))
	}
	if came[false] < 500 || came[true] < 500 {
		t.Fatalf("too few of a kind came: %v", came)
	}
}

// P20.1: many records, the last of which is changed.
func TestManyRecords(t *testing.T) {
	const many = 20000
	var b book
	var l []api.Record
	for i := range many {
		b = append(b, note{uint64(i + 1), uint32(i / 7), "x", i % 2})
		l = append(l, b[i].record())
	}
	if !audit.Check(l) || audit.Failed(l) != many/2 {
		t.Fatalf("Check is %v, Failed %d", audit.Check(l), audit.Failed(l))
	}
	agreeAdd(t, b, 0, "y", 1)
	l[many-1].Number++
	if audit.Check(l) {
		t.Fatal("the last number is another one, and it is an audit")
	}
	l[many-1].Number--
	l[many-1].Tick = l[many-2].Tick - 1
	if audit.Check(l) {
		t.Fatal("the last tick falls, and it is an audit")
	}
}

// P20.1, P1: each call ends, without a panic, at any lists, nil ones too.
func TestAddEnds(t *testing.T) {
	for _, l := range [][]api.Record{nil, {}, make([]api.Record, 1), make([]api.Record, 1<<16)} {
		ends(t, fmt.Sprintf("the calls with %d records", len(l)), func() {
			audit.Check(l)
			audit.Failed(l)
			audit.Text(l)
			for _, tick := range oddTicks {
				if got := audit.Add(l, tick, "", 0); len(got) != len(l)+1 {
					t.Errorf("Add to %d answers %d", len(l), len(got))
				}
			}
		})
	}
}
