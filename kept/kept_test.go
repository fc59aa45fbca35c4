package kept_test

import (
	"math"
	"math/rand"
	"slices"
	"strconv"
	"testing"

	"congress/api"
	"congress/kept"
)

const most32 = math.MaxUint32

// strangers are numbers of no daemon.
var strangers = []int{-1, 8, 9, math.MinInt, math.MaxInt, 1 << 32, -1 << 32}

// slip is a frame that was received, told without the program's packages:
// whose, of which round (in a number that does not wrap), and its mark.
type slip struct {
	from  int
	round int64
	mark  uint64
}

// book is an account of what is kept, told without the program's packages.
type book struct {
	member [8]bool
	count  [8]int64
	kept   []slip
}

// open is the book of members, counts and slips.
func open(m, c [8]uint32, l []slip) *book {
	b := &book{kept: slices.Clone(l)}
	for daemon := range 8 {
		b.member[daemon] = m[daemon] > 0
		b.count[daemon] = int64(c[daemon])
	}
	return b
}

// take takes a slip, if it is the next one of a member.
func (b *book) take(s slip) bool {
	if s.from < 0 || s.from > 7 || !b.member[s.from] || s.round-b.count[s.from] != 1 {
		return false
	}
	b.count[s.from]++
	var young []slip
	for _, k := range b.kept {
		if k.from != s.from || k.round > s.round-3 {
			young = append(young, k)
		}
	}
	b.kept = append(young, s)
	return true
}

// mail is what a packet offers: whose, its round, another one's round; the
// marks of the three frames.
type mail struct {
	from, round, relayOf, relayRound int64
	older, newest, relay             uint64
}

// offer takes what a packet offers, up to a round for each daemon.
func (b *book) offer(p mail, most [8]uint32) []slip {
	rows := []struct {
		from, round int64
		mark        uint64
	}{{p.from, p.round - 1, p.older}, {p.from, p.round, p.newest}, {p.relayOf, p.relayRound, p.relay}}
	if p.round < 2 {
		rows = rows[1:]
	}
	var taken []slip
	for _, s := range rows {
		if s.from > 7 || s.round > int64(most[s.from]) {
			continue
		}
		if x := (slip{int(s.from), s.round, s.mark}); b.take(x) {
			taken = append(taken, x)
		}
	}
	return taken
}

// frameOf is the frame of a mark, which stands in all of its slots; of the mark
// 0 it is the zero frame.
func frameOf(mark uint64) api.Frame {
	var f api.Frame
	if mark == 0 {
		return f
	}
	text := strconv.FormatUint(mark, 10)
	for tenant := range f {
		for slot := range f[tenant] {
			f[tenant][slot] = api.Entry{Kind: api.EntSend, Service: tenant, Group: slot, Session: mark + uint64(slot), Number: mark, Text: text}
		}
	}
	return f
}

// keptOf is the program's form of a slip.
func keptOf(s slip) api.Kept {
	return api.Kept{From: s.from, Round: uint32(s.round), Frame: frameOf(s.mark)}
}

// listOf is the program's form of slips, in a list with room behind it that is
// marked, so that writing there is seen.
func listOf(l []slip) []api.Kept {
	list := make([]api.Kept, 0, len(l)+4)
	for _, s := range l {
		list = append(list, keptOf(s))
	}
	for i := range list[len(list):cap(list)] {
		list[:cap(list)][len(l)+i] = keptOf(slip{7, 77, 7777})
	}
	return list
}

// slipsOf is the account's form of a list of frames, each of which must be the
// frame of its mark.
func slipsOf(t *testing.T, l []api.Kept) []slip {
	t.Helper()
	var slips []slip
	for _, k := range l {
		mark := k.Frame[0][0].Number
		if k.Frame != frameOf(mark) {
			t.Fatalf("a frame is %v", k.Frame)
		}
		slips = append(slips, slip{k.From, int64(k.Round), mark})
	}
	return slips
}

// packetOf is the program's form of a packet's mail.
func packetOf(p mail) api.Packet {
	return api.Packet{
		From: uint32(p.from), Round: uint32(p.round), RelayOf: uint32(p.relayOf), RelayRound: uint32(p.relayRound),
		Older: frameOf(p.older), Newest: frameOf(p.newest), Relay: frameOf(p.relay),
	}
}

// untouched asks that a list made by listOf is still what it was, with the room
// behind it.
func untouched(t *testing.T, list []api.Kept, l []slip) {
	t.Helper()
	if !slices.Equal(list[:cap(list)], listOf(l)[:len(l)+4]) {
		t.Fatalf("the list of %v became %v", l, list[:cap(list)])
	}
}

// agreeTake asks that Take and the book say the same, and leave the list alone.
func agreeTake(t *testing.T, l []slip, c api.Counts, m api.Members, x slip) ([]slip, api.Counts, bool) {
	t.Helper()
	list := listOf(l)
	got, counts, ok := kept.Take(list, c, m, keptOf(x))
	untouched(t, list, l)
	b := open(m, c, l)
	want := b.take(x)
	slips := slipsOf(t, got)
	if ok != want || !slices.Equal(slips, b.kept) || countsOf(counts) != b.count {
		t.Fatalf("Take(%v, %v, %v, %v): %v, %v, %v, not %v, %v, %v", l, c, m, x, slips, counts, ok, b.kept, b.count, want)
	}
	return slips, counts, ok
}

// agreeOffer asks that Offer and the book say the same, and leave the list alone.
func agreeOffer(t *testing.T, l []slip, c api.Counts, m api.Members, p mail, most api.Counts) ([]slip, api.Counts, []slip) {
	t.Helper()
	list := listOf(l)
	got, counts, taken := kept.Offer(list, c, m, packetOf(p), most)
	untouched(t, list, l)
	b := open(m, c, l)
	want := b.offer(p, most)
	slips, fresh := slipsOf(t, got), slipsOf(t, taken)
	if !slices.Equal(fresh, want) || !slices.Equal(slips, b.kept) || countsOf(counts) != b.count {
		t.Fatalf("Offer(%v, %v, %v, %v, %v): %v, %v, %v, not %v, %v, %v", l, c, m, p, most, slips, counts, fresh, b.kept, b.count, want)
	}
	return slips, counts, fresh
}

// countsOf is counts in numbers that do not wrap.
func countsOf(c api.Counts) [8]int64 {
	var counts [8]int64
	for daemon, n := range c {
		counts[daemon] = int64(n)
	}
	return counts
}

// crowd is the members that the bits of a choice tell, each with an incarnation
// of its own.
func crowd(choice int) api.Members {
	var m api.Members
	for daemon := range m {
		if choice>>daemon&1 != 0 {
			m[daemon] = most32 - uint32(daemon)
		}
	}
	return m
}

// all is members or counts of which each one is n.
func all(n uint32) [8]uint32 {
	return [8]uint32{n, n, n, n, n, n, n, n}
}

// edgeLists are lists with none, one, three and many, about a daemon and a
// round: frames of it and of others in any order, rounds that stand twice, and
// frames of daemons that are none.
func edgeLists(from int, round int64) [][]slip {
	other := (from + 3) % 8
	var about, three []slip
	for i, n := range []int64{round - 3, round - 1, round - 4, round - 2, round - 3, round, round + 1, 0, 1, most32, most32 - 3} {
		if n < 0 || n > most32 {
			continue
		}
		mark := uint64(100 + 10*i)
		about = append(about, slip{from, n, mark}, slip{other, n, mark + 1}, slip{-1, n, mark + 2}, slip{from, n, mark + 3}, slip{8, n, mark + 4})
		if i < 3 {
			three = append(three, slip{from, n, mark})
		}
	}
	about = append(about, slip{math.MinInt, round, 1}, slip{math.MaxInt, round, 2}, slip{from + 8, 0, 3}, slip{from - 8, 0, 4}, slip{from + 1<<32, 0, 5})
	return [][]slip{nil, {{from, 0, 0}}, {{other, round, 5}}, three, about}
}

// P10.1, P10.4: the chapter's example.
func TestExample(t *testing.T) {
	m := api.Members{1}
	var l []api.Kept
	var c api.Counts
	var taken []uint32
	for i, round := range []uint32{1, 3, 2, 2} {
		var ok bool
		l, c, ok = kept.Take(l, c, m, api.Kept{Round: round, Frame: frameOf(uint64(i + 1))})
		if ok {
			taken = append(taken, round)
		}
	}
	if !slices.Equal(taken, []uint32{1, 2}) || c != (api.Counts{2}) {
		t.Errorf("taken %v, counts %v", taken, c)
	}
	if want := []slip{{0, 1, 1}, {0, 2, 3}}; !slices.Equal(slipsOf(t, l), want) {
		t.Errorf("kept %v, not %v", slipsOf(t, l), want)
	}
}

// P10.1: what stands behind the others, what is kept no more, and the count.
func TestTake(t *testing.T) {
	for _, c := range []struct {
		name   string
		l      []slip
		counts api.Counts
		m      api.Members
		x      slip
		want   []slip
		after  api.Counts
		ok     bool
	}{
		{"the first one", nil, api.Counts{}, api.Members{1}, slip{0, 1, 9},
			[]slip{{0, 1, 9}}, api.Counts{1}, true},
		{"the first one of the last daemon", nil, api.Counts{}, api.Members{7: 1}, slip{7, 1, 9},
			[]slip{{7, 1, 9}}, api.Counts{7: 1}, true},
		{"an empty frame", nil, api.Counts{}, api.Members{1}, slip{0, 1, 0},
			[]slip{{0, 1, 0}}, api.Counts{1}, true},
		{"behind another one's", []slip{{1, 4, 1}}, api.Counts{0, 4}, api.Members{1, 1}, slip{0, 1, 9},
			[]slip{{1, 4, 1}, {0, 1, 9}}, api.Counts{1, 4}, true},
		{"the third one", []slip{{0, 1, 1}, {0, 2, 2}}, api.Counts{2}, api.Members{1}, slip{0, 3, 9},
			[]slip{{0, 1, 1}, {0, 2, 2}, {0, 3, 9}}, api.Counts{3}, true},
		{"the fourth one: the first goes", []slip{{0, 1, 1}, {0, 2, 2}, {0, 3, 3}}, api.Counts{3}, api.Members{1}, slip{0, 4, 9},
			[]slip{{0, 2, 2}, {0, 3, 3}, {0, 4, 9}}, api.Counts{4}, true},
		{"the others keep their order", []slip{{0, 3, 3}, {1, 1, 4}, {0, 1, 1}, {2, 1, 5}, {0, 2, 2}}, api.Counts{3, 1, 1}, api.Members{1, 1, 1}, slip{0, 4, 9},
			[]slip{{0, 3, 3}, {1, 1, 4}, {2, 1, 5}, {0, 2, 2}, {0, 4, 9}}, api.Counts{4, 1, 1}, true},
		{"all old ones go, however often they stand", []slip{{0, 1, 1}, {0, 2, 2}, {0, 1, 3}, {0, 5, 4}, {0, 6, 5}, {0, 6, 6}, {0, 0, 7}}, api.Counts{8}, api.Members{1}, slip{0, 9, 9},
			[]slip{{0, 9, 9}}, api.Counts{9}, true},
		{"later ones stay", []slip{{0, 7, 1}, {0, 6, 2}, {0, 12, 3}, {0, 9, 4}, {0, most32, 5}}, api.Counts{8}, api.Members{1}, slip{0, 9, 9},
			[]slip{{0, 7, 1}, {0, 12, 3}, {0, 9, 4}, {0, most32, 5}, {0, 9, 9}}, api.Counts{9}, true},
		{"a round 0 stays in round 1", []slip{{0, 0, 1}}, api.Counts{0}, api.Members{1}, slip{0, 1, 9},
			[]slip{{0, 0, 1}, {0, 1, 9}}, api.Counts{1}, true},
		{"a round 0 stays in round 2", []slip{{0, 0, 1}}, api.Counts{1}, api.Members{1}, slip{0, 2, 9},
			[]slip{{0, 0, 1}, {0, 2, 9}}, api.Counts{2}, true},
		{"a round 0 goes in round 3", []slip{{0, 0, 1}, {1, 0, 2}}, api.Counts{2}, api.Members{1, 1}, slip{0, 3, 9},
			[]slip{{1, 0, 2}, {0, 3, 9}}, api.Counts{3}, true},
		{"the last round", []slip{{0, most32 - 3, 1}, {0, most32 - 2, 2}, {0, most32 - 1, 3}}, api.Counts{most32 - 1}, api.Members{1}, slip{0, most32, 9},
			[]slip{{0, most32 - 2, 2}, {0, most32 - 1, 3}, {0, most32, 9}}, api.Counts{most32}, true},
		{"none behind the last round", []slip{{0, most32, 1}}, api.Counts{most32}, api.Members{1}, slip{0, 0, 9},
			[]slip{{0, most32, 1}}, api.Counts{most32}, false},
		{"frames of nobody stay", []slip{{-1, 1, 1}, {8, 1, 2}, {3, 1, 3}, {0, 1, 4}}, api.Counts{8}, api.Members{1}, slip{0, 9, 9},
			[]slip{{-1, 1, 1}, {8, 1, 2}, {3, 1, 3}, {0, 9, 9}}, api.Counts{9}, true},
		{"one that was", []slip{{0, 1, 1}}, api.Counts{1}, api.Members{1}, slip{0, 1, 9},
			[]slip{{0, 1, 1}}, api.Counts{1}, false},
		{"one too early", []slip{{0, 1, 1}}, api.Counts{1}, api.Members{1}, slip{0, 3, 9},
			[]slip{{0, 1, 1}}, api.Counts{1}, false},
		{"the round 0", nil, api.Counts{}, api.Members{1}, slip{0, 0, 9}, nil, api.Counts{}, false},
		{"no member", []slip{{0, 1, 1}}, api.Counts{1, 2}, api.Members{1, 0, 1}, slip{1, 3, 9},
			[]slip{{0, 1, 1}}, api.Counts{1, 2}, false},
		{"a list may lack what the counts say", nil, api.Counts{5}, api.Members{1}, slip{0, 6, 9},
			[]slip{{0, 6, 9}}, api.Counts{6}, true},
	} {
		got, counts, ok := kept.Take(listOf(c.l), c.counts, c.m, keptOf(c.x))
		if slips := slipsOf(t, got); !slices.Equal(slips, c.want) || counts != c.after || ok != c.ok {
			t.Errorf("%s: %v, %v, %v", c.name, slips, counts, ok)
		}
	}
}

// P10.1: members with none, one, some and all; each daemon; counts and rounds
// at their edges; all kinds of lists.
func TestTakeEdges(t *testing.T) {
	for _, choice := range []int{0, 1, 128, 1 | 128, 1<<2 | 1<<5, 254, 127, 255} {
		m := crowd(choice)
		for _, from := range []int{0, 2, 3, 7} {
			for _, count := range []uint32{0, 1, 2, 3, 4, 1 << 31, most32 - 2, most32 - 1, most32} {
				for _, rest := range []uint32{0, count, count + 1, most32} {
					c := api.Counts(all(rest))
					c[from] = count
					rounds := []uint32{0, 1, count - 1, count, count + 1, count + 2, most32}
					for _, round := range rounds {
						for _, l := range edgeLists(from, int64(round)) {
							agreeTake(t, l, c, m, slip{from, int64(round), 9})
						}
					}
				}
			}
		}
	}
}

// P10.1: a daemon that is none, or no member, is not taken from.
func TestTakeStranger(t *testing.T) {
	l := []slip{{0, 1, 1}, {-1, 1, 2}, {8, 1, 3}}
	for _, c := range []api.Counts{{}, {4, 4, 4, 4, 4, 4, 4, 4}, all(most32)} {
		for _, round := range []int64{0, 1, 4, 5, 6, most32} {
			for _, from := range strangers {
				if _, _, ok := agreeTake(t, l, c, crowd(255), slip{from, round, 9}); ok {
					t.Errorf("daemon %d, round %d was taken", from, round)
				}
			}
			for from := range api.Daemons {
				if _, _, ok := agreeTake(t, l, c, crowd(255&^(1<<from)), slip{from, round, 9}); ok {
					t.Errorf("daemon %d, round %d was taken, though no member", from, round)
				}
			}
		}
	}
}

// P10.1, R5: a nil list and an empty one are the same.
func TestTakeOfNothing(t *testing.T) {
	x := keptOf(slip{2, 1, 9})
	for _, l := range [][]api.Kept{nil, {}, make([]api.Kept, 0, 5)} {
		got, c, ok := kept.Take(l, api.Counts{}, crowd(255), x)
		if !slices.Equal(got, []api.Kept{x}) || c != (api.Counts{2: 1}) || !ok {
			t.Errorf("Take: %v, %v, %v", got, c, ok)
		}
		got, c, ok = kept.Take(l, api.Counts{}, api.Members{}, x)
		if len(got) != 0 || c != (api.Counts{}) || ok {
			t.Errorf("Take of no member: %v, %v, %v", got, c, ok)
		}
	}
}

// P10.2: the first one of the daemon and the round.
func TestGet(t *testing.T) {
	l := []slip{{0, 1, 1}, {7, 1, 2}, {0, 2, 3}, {7, most32, 4}, {0, 1, 5}, {3, 0, 6}, {7, 1, 0}, {5, 9, 0}, {-1, 1, 7}, {8, 2, 8}}
	list := listOf(l)
	for _, c := range []struct {
		name  string
		from  int
		round uint32
		mark  uint64
		ok    bool
	}{
		{"the first of two", 0, 1, 1, true},
		{"the first of two, of the last daemon", 7, 1, 2, true},
		{"the only one", 0, 2, 3, true},
		{"the last round", 7, most32, 4, true},
		{"the round 0", 3, 0, 6, true},
		{"an empty frame", 5, 9, 0, true},
		{"another round of the daemon", 0, 3, 0, false},
		{"the round 0, which is not there", 0, 0, 0, false},
		{"another daemon's round", 7, 2, 0, false},
		{"the last round of another daemon", 0, most32, 0, false},
		{"a daemon of which there is none", 4, 1, 0, false},
		{"one that is none, but stands there", -1, 1, 7, true},
		{"one that is none, but stands there, above", 8, 2, 8, true},
		{"one that is none, in another round", -1, 2, 0, false},
		{"one that is none, in another round, above", 8, 1, 0, false},
	} {
		f, ok := kept.Get(list, c.from, c.round)
		if f != frameOf(c.mark) || ok != c.ok {
			t.Errorf("%s: %v, %v", c.name, f, ok)
		}
	}
	untouched(t, list, l)
}

// P10.2: of a daemon that is none there is no frame, nor in a list with none.
func TestGetNothing(t *testing.T) {
	var l []slip
	for daemon := range api.Daemons {
		l = append(l, slip{daemon, 0, 1}, slip{daemon, 1, 2}, slip{daemon, most32, 3})
	}
	for _, list := range [][]api.Kept{nil, {}, listOf(l)} {
		for _, round := range []uint32{0, 1, 2, most32} {
			for _, from := range append([]int{0, 7}, strangers...) {
				if from >= 0 && from < 8 && len(list) > 0 {
					continue
				}
				if f, ok := kept.Get(list, from, round); f != (api.Frame{}) || ok {
					t.Errorf("Get(.., %d, %d): %v, %v", from, round, f, ok)
				}
			}
		}
	}
}

// P10.2: the one at the place that is left of the number.
func TestPick(t *testing.T) {
	var l []slip
	for i := range 25 {
		l = append(l, slip{i % 9, int64(i / 3), uint64(i + 1)})
	}
	for many := 1; many <= len(l); many++ {
		list := listOf(l[:many])
		n := uint32(many)
		for _, number := range []uint32{0, 1, n - 1, n, n + 1, 2*n - 1, 2 * n, 2*n + 1, 1 << 31, most32 - 1, most32} {
			place := int64(number)
			place -= place / int64(many) * int64(many)
			x, ok := kept.Pick(list, number)
			if x != keptOf(l[place]) || !ok {
				t.Errorf("Pick of %d, %d: %v, %v", many, number, x, ok)
			}
		}
		untouched(t, list, l[:many])
	}
}

// P10.2: numbers count round and round over all of them.
func TestPickAll(t *testing.T) {
	l := []slip{{0, 2, 1}, {1, 2, 2}, {0, 3, 3}, {8, 0, 4}, {-1, 0, 5}}
	list := listOf(l)
	for n := range uint32(20) {
		if x, ok := kept.Pick(list, n); x != keptOf(l[n%5]) || !ok {
			t.Errorf("Pick %d: %v, %v", n, x, ok)
		}
	}
	// 2^32 - 1 is a whole number of fives.
	if x, _ := kept.Pick(list, most32); x != keptOf(l[0]) {
		t.Errorf("Pick of the greatest number: %v", x)
	}
}

// P10.2, R5: of a nil list and an empty one there is none.
func TestPickNothing(t *testing.T) {
	for _, l := range [][]api.Kept{nil, {}, make([]api.Kept, 0, 5)} {
		for _, n := range []uint32{0, 1, 2, most32} {
			if x, ok := kept.Pick(l, n); x != (api.Kept{}) || ok {
				t.Errorf("Pick(nothing, %d): %v, %v", n, x, ok)
			}
		}
	}
}

// P10.3: which frames of a packet are taken, in which order.
func TestOffer(t *testing.T) {
	open := api.Counts(all(most32))
	for _, c := range []struct {
		name   string
		counts api.Counts
		p      mail
		most   api.Counts
		want   []slip
	}{
		{"all three", api.Counts{4, 6}, mail{0, 6, 1, 7, 1, 2, 3}, open, []slip{{0, 5, 1}, {0, 6, 2}, {1, 7, 3}}},
		{"the newest alone", api.Counts{5, 7}, mail{0, 6, 1, 7, 1, 2, 3}, open, []slip{{0, 6, 2}}},
		{"the older one alone", api.Counts{4}, mail{0, 6, 1, 7, 1, 2, 3}, api.Counts{5}, []slip{{0, 5, 1}}},
		{"the relay alone", api.Counts{6, 6}, mail{0, 6, 1, 7, 1, 2, 3}, open, []slip{{1, 7, 3}}},
		{"nothing new", api.Counts{6, 7}, mail{0, 6, 1, 7, 1, 2, 3}, open, nil},
		{"all too early", api.Counts{3, 5}, mail{0, 6, 1, 7, 1, 2, 3}, open, nil},
		{"the first round", api.Counts{}, mail{0, 1, 1, 1, 1, 2, 3}, open, []slip{{0, 1, 2}, {1, 1, 3}}},
		{"the second round", api.Counts{}, mail{0, 2, 1, 1, 1, 2, 3}, open, []slip{{0, 1, 1}, {0, 2, 2}, {1, 1, 3}}},
		{"no round yet", api.Counts{}, mail{0, 0, 1, 1, 1, 2, 3}, open, []slip{{1, 1, 3}}},
		{"no round yet, behind the last one", api.Counts{most32, most32 - 1}, mail{0, 0, 1, most32, 1, 2, 3}, open, []slip{{1, most32, 3}}},
		{"no round yet, ahead of the last one", api.Counts{most32 - 1}, mail{0, 0, 1, 0, 1, 2, 3}, open, nil},
		{"the last round", api.Counts{most32 - 2}, mail{0, most32, 1, 0, 1, 2, 3}, open, []slip{{0, most32 - 1, 1}, {0, most32, 2}}},
		{"no relay", api.Counts{}, mail{0, 0, 1, 0, 1, 2, 3}, open, nil},
		{"a relay of its own, next now", api.Counts{6}, mail{0, 6, 0, 7, 1, 2, 3}, open, []slip{{0, 7, 3}}},
		{"a relay of its own, next behind the older one", api.Counts{4}, mail{0, 6, 0, 6, 1, 2, 3}, api.Counts{5}, []slip{{0, 5, 1}}},
		{"a relay of its own, next behind the newest", api.Counts{4}, mail{0, 6, 0, 7, 1, 2, 3}, open, []slip{{0, 5, 1}, {0, 6, 2}, {0, 7, 3}}},
		{"a relay of its own, next behind the newest alone", api.Counts{5}, mail{0, 6, 0, 7, 1, 2, 3}, open, []slip{{0, 6, 2}, {0, 7, 3}}},
		{"a relay that was the older one", api.Counts{4}, mail{0, 6, 0, 5, 1, 2, 3}, open, []slip{{0, 5, 1}, {0, 6, 2}}},
		{"a relay that was the newest", api.Counts{4}, mail{0, 6, 0, 6, 1, 2, 3}, open, []slip{{0, 5, 1}, {0, 6, 2}}},
		{"a relay ahead of the older one comes too late for it", api.Counts{3}, mail{0, 6, 0, 4, 1, 2, 3}, open, []slip{{0, 4, 3}}},
		{"bounds at the rounds", api.Counts{4, 6}, mail{0, 6, 1, 7, 1, 2, 3}, api.Counts{6, 7}, []slip{{0, 5, 1}, {0, 6, 2}, {1, 7, 3}}},
		{"a bound below the older one", api.Counts{4, 6}, mail{0, 6, 1, 7, 1, 2, 3}, api.Counts{4, 7}, []slip{{1, 7, 3}}},
		{"a bound below the newest", api.Counts{4, 6}, mail{0, 6, 1, 7, 1, 2, 3}, api.Counts{5, 8}, []slip{{0, 5, 1}, {1, 7, 3}}},
		{"a bound below the relay", api.Counts{4, 6}, mail{0, 6, 1, 7, 1, 2, 3}, api.Counts{7, 6}, []slip{{0, 5, 1}, {0, 6, 2}}},
		{"bounds 0", api.Counts{}, mail{0, 1, 1, 1, 1, 2, 3}, api.Counts{}, nil},
		{"another one's relay ahead of it", api.Counts{0, 4}, mail{1, 6, 0, 1, 1, 2, 3}, open, []slip{{1, 5, 1}, {1, 6, 2}, {0, 1, 3}}},
		{"the last daemons", api.Counts{6: 4, 7: 6}, mail{7, 8, 6, 5, 1, 2, 3}, open, []slip{{7, 7, 1}, {7, 8, 2}, {6, 5, 3}}},
		{"From is none", api.Counts{}, mail{8, 2, 1, 1, 1, 2, 3}, open, []slip{{1, 1, 3}}},
		{"From is far from any", api.Counts{}, mail{most32, 2, 7, 1, 1, 2, 3}, open, []slip{{7, 1, 3}}},
		{"RelayOf is none", api.Counts{}, mail{0, 1, 8, 1, 1, 2, 3}, open, []slip{{0, 1, 2}}},
		{"RelayOf is far from any", api.Counts{}, mail{0, 1, most32, 1, 1, 2, 3}, open, []slip{{0, 1, 2}}},
		{"both are none", api.Counts{}, mail{8, 2, most32, 1, 1, 2, 3}, open, nil},
	} {
		got, counts, taken := kept.Offer(nil, c.counts, crowd(255), packetOf(c.p), c.most)
		if slips := slipsOf(t, taken); !slices.Equal(slips, c.want) {
			t.Errorf("%s: taken %v, not %v", c.name, slips, c.want)
		}
		after := c.counts
		for _, s := range c.want {
			after[s.from] = uint32(s.round)
		}
		if counts != after {
			t.Errorf("%s: counts %v, not %v", c.name, counts, after)
		}
		if !slices.Equal(slipsOf(t, got), c.want) {
			t.Errorf("%s: kept %v, not %v", c.name, slipsOf(t, got), c.want)
		}
	}
}

// P10.3: members alone are taken from, and of three frames of one daemon that
// are taken the old ones are kept no more.
func TestOfferMembers(t *testing.T) {
	l := []slip{{0, 1, 11}, {1, 4, 14}, {0, 2, 12}, {0, 3, 13}, {2, 1, 15}}
	c, most := api.Counts{3, 4, 1}, api.Counts(all(9))
	p := mail{0, 5, 0, 6, 1, 2, 3}
	got, _, taken := agreeOffer(t, l, c, crowd(7), p, most)
	if want := []slip{{1, 4, 14}, {2, 1, 15}, {0, 4, 1}, {0, 5, 2}, {0, 6, 3}}; !slices.Equal(got, want) || !slices.Equal(taken, want[2:]) {
		t.Errorf("kept %v, taken %v", got, taken)
	}
	got, counts, taken := agreeOffer(t, l, c, crowd(6), p, most)
	if !slices.Equal(got, l) || counts != c || len(taken) != 0 {
		t.Errorf("of no member: kept %v, counts %v, taken %v", got, counts, taken)
	}
	p.relayOf, p.relayRound = 1, 5
	got, counts, taken = agreeOffer(t, l, c, crowd(6), p, most)
	if counts != (api.Counts{3, 5, 1}) || !slices.Equal(taken, []slip{{1, 5, 3}}) || !slices.Equal(got, append(slices.Clone(l), taken...)) {
		t.Errorf("a member's relay: kept %v, counts %v, taken %v", got, counts, taken)
	}
}

// P10.3: Round at its edges, counts about it, relays of From and of another
// one, bounds below, at and above each round; all kinds of lists and members.
func TestOfferEdges(t *testing.T) {
	for _, round := range []int64{0, 1, 2, 3, 4, most32} {
		for _, from := range []int64{0, 7, 8, most32} {
			for _, relayOf := range []int64{from, (from + 4) % 8, 8, most32} {
				for _, ahead := range []int64{-2, -1, 0, 1, 2} {
					offerAbout(t, mail{from, round, relayOf, within(round + ahead), 1, 2, 3})
				}
			}
		}
	}
}

// offerAbout offers a packet at counts and bounds about its rounds.
func offerAbout(t *testing.T, p mail) {
	t.Helper()
	lists := edgeLists(int(p.from%8), p.round)
	for behind := range int64(4) {
		c := api.Counts(all(uint32(within(p.round - behind))))
		for ahead := range int64(4) {
			most := api.Counts(all(uint32(within(p.round - 2 + ahead))))
			for i, m := range []api.Members{{}, crowd(1 << (p.from % 8)), crowd(1<<(p.relayOf%8) | 1<<1), crowd(255)} {
				l := lists[(i+int(behind+2*ahead))%len(lists)]
				relays := c
				relays[p.relayOf%8] = uint32(within(p.relayRound - 1))
				agreeOffer(t, l, c, m, p, most)
				agreeOffer(t, l, relays, m, p, most)
				bounds := most
				bounds[p.relayOf%8] = uint32(within(p.relayRound + ahead - 1))
				agreeOffer(t, l, relays, m, p, bounds)
			}
		}
	}
}

// within is the number nearest to n that a round may have.
func within(n int64) int64 {
	return max(0, min(n, most32))
}

// R5: a nil list and an empty one are the same for Offer.
func TestOfferOfNothing(t *testing.T) {
	p := packetOf(mail{0, 1, 1, 1, 1, 2, 3})
	for _, l := range [][]api.Kept{nil, {}, make([]api.Kept, 0, 5)} {
		got, _, taken := kept.Offer(l, api.Counts{}, crowd(255), p, all(9))
		want := []slip{{0, 1, 2}, {1, 1, 3}}
		if !slices.Equal(slipsOf(t, got), want) || !slices.Equal(slipsOf(t, taken), want) {
			t.Errorf("Offer: %v, %v", got, taken)
		}
		got, c, taken := kept.Offer(l, api.Counts{}, api.Members{}, p, all(9))
		if len(got) != 0 || c != (api.Counts{}) || len(taken) != 0 {
			t.Errorf("Offer to no members: %v, %v, %v", got, c, taken)
		}
	}
}

// scribble writes over a list and the room behind it.
func scribble(l []api.Kept) {
	for i := range l[:cap(l)] {
		l[:cap(l)][i] = keptOf(slip{6, 66, 666})
	}
}

// P10.1, R4: what Take answers shares no memory with its argument, nor with
// another answer, whether it took or not.
func TestTakeIsItsOwn(t *testing.T) {
	l := []slip{{0, 1, 1}, {1, 1, 2}, {0, 2, 3}, {0, 3, 4}}
	for _, x := range []slip{{0, 4, 9}, {1, 2, 9}, {0, 5, 9}, {5, 1, 9}} {
		c, m := api.Counts{3, 1}, crowd(3)
		list := listOf(l)
		first, _, _ := kept.Take(list, c, m, keptOf(x))
		second, _, _ := kept.Take(list, c, m, keptOf(x))
		was := slices.Clone(second)
		scribble(first)
		untouched(t, list, l)
		if !slices.Equal(second, was) {
			t.Errorf("Take of %v: one answer changed another one", x)
		}
		scribble(list)
		if !slices.Equal(second, was) {
			t.Errorf("Take of %v: the argument changed the answer", x)
		}
	}
}

// P10.3, R4: what Offer answers shares no memory with its argument, and its two
// lists share none with each other.
func TestOfferIsItsOwn(t *testing.T) {
	l := []slip{{0, 1, 1}, {1, 1, 2}, {0, 2, 3}, {0, 3, 4}}
	for _, p := range []mail{{0, 5, 1, 2, 7, 8, 9}, {0, 5, 0, 6, 7, 8, 9}, {5, 1, 1, 2, 7, 8, 9}, {0, 3, 1, 1, 7, 8, 9}, {8, 3, 8, 1, 7, 8, 9}, {0, 12, 1, 12, 7, 8, 9}} {
		c, m, most := api.Counts{3, 1}, crowd(3), api.Counts(all(9))
		list, packet := listOf(l), packetOf(p)
		first, _, firstTaken := kept.Offer(list, c, m, packet, most)
		second, _, secondTaken := kept.Offer(list, c, m, packet, most)
		was, wasTaken := slices.Clone(second), slices.Clone(secondTaken)
		scribble(first)
		if !slices.Equal(firstTaken, wasTaken) {
			t.Errorf("Offer of %v: what is kept changed what was taken", p)
		}
		scribble(firstTaken)
		untouched(t, list, l)
		scribble(secondTaken)
		scribble(list)
		if !slices.Equal(second, was) {
			t.Errorf("Offer of %v: the answer changed", p)
		}
		if packet != packetOf(p) {
			t.Errorf("Offer of %v: the packet changed", p)
		}
	}
}

// P10.2, R4: what Get and Pick tell does not change with the list.
func TestFoundIsItsOwn(t *testing.T) {
	list := listOf([]slip{{0, 1, 1}, {1, 1, 2}})
	f, _ := kept.Get(list, 1, 1)
	x, _ := kept.Pick(list, 1)
	scribble(list)
	if f != frameOf(2) || x != keptOf(slip{1, 1, 2}) {
		t.Errorf("Get: %v; Pick: %v", f, x)
	}
}

// P10.1, P10.3: drawn lists, counts and packets.
func TestDrawn(t *testing.T) {
	r := rand.New(rand.NewSource(101))
	for range 4000 {
		base := []int64{0, 0, 1, 2, 40, most32 - 3}[r.Intn(6)]
		near := func() int64 { return within(base + int64(r.Intn(6)) - 1) }
		var l []slip
		for range r.Intn(12) {
			l = append(l, slip{r.Intn(10) - 1, near(), uint64(r.Intn(50))})
		}
		var c, most api.Counts
		for daemon := range c {
			c[daemon], most[daemon] = uint32(near()), uint32(near())
		}
		m := crowd(r.Intn(256) | r.Intn(256))
		agreeTake(t, l, c, m, slip{r.Intn(10) - 1, near(), 99})
		agreeOffer(t, l, c, m, mail{int64(r.Intn(9)), near(), int64(r.Intn(9)), near(), 97, 98, 99}, most)
	}
}

// log is what was taken of each daemon, in order, told without the program's
// packages, beside which the rounds must come one by one.
type log [8][]slip

// note writes down that a slip was taken, which must be the next one.
func (g *log) note(t *testing.T, s slip) {
	t.Helper()
	if s.round != int64(len(g[s.from]))+1 {
		t.Fatalf("of daemon %d round %d was taken behind %d", s.from, s.round, len(g[s.from]))
	}
	g[s.from] = append(g[s.from], s)
}

// hold asks that the last three that were taken of each daemon are kept, and no
// others, and that they are found.
func (g *log) hold(t *testing.T, l []api.Kept, c api.Counts) {
	t.Helper()
	slips := slipsOf(t, l)
	many := 0
	for daemon, taken := range g {
		last := taken[max(0, len(taken)-3):]
		many += len(last)
		var of []slip
		for _, s := range slips {
			if s.from == daemon {
				of = append(of, s)
			}
		}
		if !slices.Equal(of, last) {
			t.Fatalf("of daemon %d there are kept %v, not %v", daemon, of, last)
		}
		if int(c[daemon]) != len(taken) {
			t.Fatalf("of daemon %d the count is %d, not %d", daemon, c[daemon], len(taken))
		}
		for round := range uint32(len(taken) + 3) {
			f, ok := kept.Get(l, daemon, round)
			young := round > 0 && int(round) <= len(taken) && int(round) > len(taken)-3
			if ok != young || young && f != frameOf(taken[round-1].mark) || !young && f != (api.Frame{}) {
				t.Fatalf("of daemon %d round %d: %v, %v", daemon, round, f, ok)
			}
		}
	}
	if len(slips) != many {
		t.Fatalf("there are kept %v, where %d should be", slips, many)
	}
}

// markOf is the mark of a frame that a daemon sends in a round: another one
// each time, so that it is seen which of several was taken.
func markOf(r *rand.Rand) uint64 {
	return uint64(1 + r.Intn(1<<30))
}

// P10.4: whatever is offered when, and however often, of each member frames are
// taken in the order of their rounds, from 1 on, each once, and the last three
// are kept.
func TestRuns(t *testing.T) {
	r := rand.New(rand.NewSource(104))
	for range 150 {
		m := crowd(r.Intn(256) | r.Intn(256))
		var l []api.Kept
		var c api.Counts
		var g log
		b := open(m, c, nil)
		far := 1 + r.Intn(8)
		for range 200 {
			if r.Intn(2) == 0 {
				x := slip{r.Intn(10) - 1, int64(r.Intn(far + 2)), markOf(r)}
				var ok bool
				if l, c, ok = kept.Take(l, c, m, keptOf(x)); ok {
					g.note(t, x)
				}
				if ok != b.take(x) {
					t.Fatalf("members %v, counts %v: Take of %v is %v", m, c, x, ok)
				}
			} else {
				p := mail{int64(r.Intn(9)), int64(r.Intn(far + 2)), int64(r.Intn(9)), int64(r.Intn(far + 2)), markOf(r), markOf(r), markOf(r)}
				most := api.Counts(all(uint32(r.Intn(far + 4))))
				var taken []api.Kept
				l, c, taken = kept.Offer(l, c, m, packetOf(p), most)
				for _, s := range slipsOf(t, taken) {
					g.note(t, s)
				}
				if want := b.offer(p, most); !slices.Equal(slipsOf(t, taken), want) {
					t.Fatalf("members %v, counts %v: of %v were taken %v, not %v", m, c, p, slipsOf(t, taken), want)
				}
			}
			g.hold(t, l, c)
			if !slices.Equal(slipsOf(t, l), b.kept) {
				t.Fatalf("members %v: kept %v, not %v", m, slipsOf(t, l), b.kept)
			}
			for daemon := range g {
				if m[daemon] == 0 && len(g[daemon]) > 0 {
					t.Fatalf("daemon %d is no member, but was taken from", daemon)
				}
			}
		}
	}
}

// P10.4: one row of frames, offered in any order and again and again, comes
// through whole, from whichever part of a packet each one is.
func TestComesThrough(t *testing.T) {
	r := rand.New(rand.NewSource(105))
	const rounds = 6
	for range 40 {
		m := crowd(1 + r.Intn(255))
		var rows []slip
		for daemon, inc := range m {
			for round := range int64(rounds) {
				if inc != 0 {
					rows = append(rows, slip{daemon, round + 1, uint64(100*daemon) + uint64(round) + 1})
				}
			}
		}
		var l []api.Kept
		var c api.Counts
		var g log
		for range rounds {
			r.Shuffle(len(rows), func(i, j int) { rows[i], rows[j] = rows[j], rows[i] })
			for _, s := range rows {
				p := mail{8, 0, int64(s.from), s.round, 0, 0, s.mark}
				if r.Intn(2) == 0 {
					p = mail{int64(s.from), s.round, 8, 0, s.mark - 1, s.mark, 0}
				}
				var taken []api.Kept
				l, c, taken = kept.Offer(l, c, m, packetOf(p), all(rounds))
				for _, x := range slipsOf(t, taken) {
					g.note(t, x)
				}
			}
			g.hold(t, l, c)
		}
		for daemon, taken := range g {
			for i, s := range taken {
				if s.mark != uint64(100*daemon+i+1) {
					t.Fatalf("of daemon %d round %d the mark is %d", daemon, s.round, s.mark)
				}
			}
			if m[daemon] != 0 && len(taken) != rounds {
				t.Fatalf("of daemon %d there were taken %v", daemon, taken)
			}
		}
	}
}
