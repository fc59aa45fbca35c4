package lossy_test

import (
	"encoding/binary"
	"fmt"
	"math"
	"math/big"
	"math/rand"
	"slices"
	"strconv"
	"testing"

	"congress/api"
	"congress/lossy"
)

// strangers are numbers of no daemon.
var strangers = []int{-1, 8, 9, math.MinInt, math.MaxInt, 1 << 32, -1 << 32, 1<<32 + 1}

// link is who sends to whom.
type link struct{ from, to int }

// slip is a letter, told without the program's packages.
type slip struct {
	link
	text   string
	turned bool
}

// String tells a slip, whatever bytes its text has.
func (s slip) String() string {
	return fmt.Sprintf("%d to %d %q %v", s.from, s.to, s.text, s.turned)
}

// bag is an account of letters under way, told without the program's packages:
// each has a serial number, by which they stand in order, and each link has a
// row of these numbers.
type bag struct {
	slips  map[int]slip
	rows   map[link][]int
	serial int
}

// bagOf is the bag of a list of slips.
func bagOf(l []slip) *bag {
	b := &bag{slips: map[int]slip{}, rows: map[link][]int{}}
	for _, s := range l {
		b.lay(s)
	}
	return b
}

// lay lays a slip behind all others.
func (b *bag) lay(s slip) {
	b.slips[b.serial] = s
	b.rows[s.link] = append(b.rows[s.link], b.serial)
	b.serial++
}

// put lays slips, while there is room; those that the bag has too many of from
// the beginning are taken out, from behind.
func (b *bag) put(x []slip) {
	for _, s := range x {
		if len(b.slips) < 4096 {
			b.lay(s)
		}
	}
	numbers := b.order()
	for len(numbers) > 4096 {
		b.remove(numbers[len(numbers)-1])
		numbers = numbers[:len(numbers)-1]
	}
}

// order is the serial numbers of all slips, rising.
func (b *bag) order() []int {
	var numbers []int
	for n := range b.slips {
		numbers = append(numbers, n)
	}
	slices.Sort(numbers)
	return numbers
}

// list is all slips, in order.
func (b *bag) list() []slip {
	var l []slip
	for _, n := range b.order() {
		l = append(l, b.slips[n])
	}
	return l
}

// find is the serial number of the slip of a row that an index names: what is
// left of it is told in numbers without an end, never below 0.
func (b *bag) find(k link, index int) (int, bool) {
	row := b.rows[k]
	if len(row) == 0 {
		return 0, false
	}
	left := new(big.Int).Mod(big.NewInt(int64(index)), big.NewInt(int64(len(row))))
	return row[left.Int64()], true
}

func (b *bag) remove(n int) slip {
	s := b.slips[n]
	delete(b.slips, n)
	at := slices.Index(b.rows[s.link], n)
	b.rows[s.link] = slices.Delete(slices.Clone(b.rows[s.link]), at, at+1)
	return s
}

func (b *bag) take(k link, index int) (slip, bool) {
	n, ok := b.find(k, index)
	if !ok {
		return slip{}, false
	}
	return b.remove(n), true
}

// turn turns bytes of a slip that was not turned yet.
func (b *bag) turn(k link, index, at int, mask uint32) {
	n, ok := b.find(k, index)
	if !ok || at < 0 || b.slips[n].turned {
		return
	}
	var by [4]byte
	binary.LittleEndian.PutUint32(by[:], mask)
	s := b.slips[n]
	var text []byte
	for i := range len(s.text) {
		c := s.text[i]
		// No difference of two numbers from 0 on wraps.
		if far := i - at; far >= 0 && far < 4 {
			c = c&^by[far] | by[far]&^c
		}
		text = append(text, c)
	}
	s.turned = string(text) != s.text
	s.text = string(text)
	b.slips[n] = s
}

// letterOf is the program's form of a slip.
func letterOf(s slip) api.Letter {
	return api.Letter{From: s.from, To: s.to, Text: s.text, Turned: s.turned}
}

// lettersOf is the program's form of slips, in a list with room behind it that
// is marked, so that writing there is seen.
func lettersOf(l []slip) []api.Letter {
	list := make([]api.Letter, len(l)+3)
	for i := range list {
		if i < len(l) {
			list[i] = letterOf(l[i])
		} else {
			list[i] = api.Letter{From: 77, To: 78, Text: "room " + strconv.Itoa(i), Turned: true}
		}
	}
	return list[:len(l)]
}

// slipOf is the account's form of a letter.
func slipOf(x api.Letter) slip {
	return slip{link{x.From, x.To}, x.Text, x.Turned}
}

// slipsOf is the account's form of letters.
func slipsOf(l []api.Letter) []slip {
	var slips []slip
	for _, x := range l {
		slips = append(slips, slipOf(x))
	}
	return slips
}

// untouched asks that a list made by lettersOf is still what it was, with the
// room behind it.
func untouched(t *testing.T, call string, list []api.Letter, l []slip) {
	t.Helper()
	if len(list) != len(l) || !slices.Equal(list[:cap(list)], lettersOf(l)[:len(l)+3]) {
		t.Fatalf("%s: the list of %v became %v", call, short(l), short(slipsOf(list[:cap(list)])))
	}
}

// spoil writes over a list, and over the room behind it.
func spoil(l []api.Letter) {
	for i := range l[:cap(l)] {
		l[:cap(l)][i] = api.Letter{From: -9, To: -9, Text: "spoilt", Turned: true}
	}
}

// apart asks that an answer shares no memory with lists that were given: one is
// written over, and the other stays.
func apart(t *testing.T, call string, answer []api.Letter, given []api.Letter, l []slip) {
	t.Helper()
	spoil(answer)
	untouched(t, call+", its answer written over", given, l)
}

// short is the beginning of slips, to be told of a test that failed.
func short(l []slip) []slip {
	return l[:min(len(l), 12)]
}

// agreePut asks that Put and the bag say the same, that Put leaves alone what it
// was given, and shares nothing with it.
func agreePut(t *testing.T, l, x []slip) []slip {
	t.Helper()
	list, others := lettersOf(l), lettersOf(x)
	got := lossy.Put(list, others...)
	untouched(t, "Put", list, l)
	untouched(t, "Put", others, x)
	b := bagOf(l)
	b.put(x)
	slips, want := slipsOf(got), b.list()
	if !slices.Equal(slips, want) {
		t.Fatalf("Put(%v of %d, %v of %d): %v of %d, not %v of %d", short(l), len(l), short(x), len(x), short(slips), len(slips), short(want), len(want))
	}
	apart(t, "Put", got, list, l)
	untouched(t, "Put, its answer written over", others, x)
	again := lossy.Put(list, others...)
	spoil(list)
	spoil(others)
	if !slices.Equal(slipsOf(again), want) {
		t.Fatalf("Put: what it was given was written over, and its answer is %v", short(slipsOf(again)))
	}
	return slips
}

// agreeMany asks that Many and the bag say the same.
func agreeMany(t *testing.T, l []slip, from, to int) int {
	t.Helper()
	list := lettersOf(l)
	got := lossy.Many(list, from, to)
	untouched(t, "Many", list, l)
	if want := len(bagOf(l).rows[link{from, to}]); got != want {
		t.Fatalf("Many(%v, %d, %d): %d, not %d", short(l), from, to, got, want)
	}
	return got
}

// agreeFind asks that Find and the bag say the same.
func agreeFind(t *testing.T, l []slip, from, to, index int) (int, bool) {
	t.Helper()
	list := lettersOf(l)
	got, ok := lossy.Find(list, from, to, index)
	untouched(t, "Find", list, l)
	want, is := bagOf(l).find(link{from, to}, index)
	if got != want || ok != is {
		t.Fatalf("Find(%v, %d, %d, %d): %d, %v, not %d, %v", short(l), from, to, index, got, ok, want, is)
	}
	return got, ok
}

// agreeTake asks that Take and the bag say the same, that Take leaves alone what
// it was given, and shares nothing with it.
func agreeTake(t *testing.T, l []slip, from, to, index int) ([]slip, slip, bool) {
	t.Helper()
	list := lettersOf(l)
	got, x, ok := lossy.Take(list, from, to, index)
	untouched(t, "Take", list, l)
	b := bagOf(l)
	s, is := b.take(link{from, to}, index)
	slips, want := slipsOf(got), b.list()
	if !slices.Equal(slips, want) || x != letterOf(s) || ok != is {
		t.Fatalf("Take(%v, %d, %d, %d): %v, %v, %v, not %v, %v, %v", short(l), from, to, index, short(slips), slipOf(x), ok, short(want), s, is)
	}
	apart(t, "Take", got, list, l)
	again, _, _ := lossy.Take(list, from, to, index)
	spoil(list)
	if !slices.Equal(slipsOf(again), want) {
		t.Fatalf("Take: what it was given was written over, and its answer is %v", short(slipsOf(again)))
	}
	return slips, s, ok
}

// agreeTurn asks that Turn and the bag say the same, that Turn leaves alone what
// it was given, and shares nothing with it.
func agreeTurn(t *testing.T, l []slip, from, to, index, at int, mask uint32) []slip {
	t.Helper()
	list := lettersOf(l)
	got := lossy.Turn(list, from, to, index, at, mask)
	untouched(t, "Turn", list, l)
	b := bagOf(l)
	b.turn(link{from, to}, index, at, mask)
	slips, want := slipsOf(got), b.list()
	if !slices.Equal(slips, want) {
		t.Fatalf("Turn(%v, %d, %d, %d, %d, %#x): %v, not %v", short(l), from, to, index, at, mask, short(slips), short(want))
	}
	apart(t, "Turn", got, list, l)
	again := lossy.Turn(list, from, to, index, at, mask)
	spoil(list)
	if !slices.Equal(slipsOf(again), want) {
		t.Fatalf("Turn: what it was given was written over, and its answer is %v", short(slipsOf(again)))
	}
	return slips
}

// row is letters of one link, with these texts.
func row(from, to int, texts ...string) []slip {
	var l []slip
	for _, text := range texts {
		l = append(l, slip{link: link{from, to}, text: text})
	}
	return l
}

// crowd is as many letters of several links, each with a text of its own.
func crowd(many int) []slip {
	var l []slip
	for i := range many {
		l = append(l, slip{link: link{i % 3, i / 2 % 4}, text: "letter " + strconv.Itoa(i)})
	}
	return l
}

// indexes are an index's edges, for a link of as many letters.
func indexes(many int) []int {
	return []int{
		0, 1, 2, many - 2, many - 1, many, many + 1, 2 * many, 3 * many, 1000 * many, 1000*many - 1, 1000*many + 1,
		-1, -2, 1 - many, -many, -many - 1, -2 * many, -1000 * many, -1000*many - 1,
		math.MinInt, math.MinInt + 1, math.MaxInt - 1, math.MaxInt,
		math.MinInt32, math.MaxInt32, math.MaxUint32, 1 << 32, -1 << 32,
	}
}

// spread are lists in which letters from 0 to 1 (none, one, several) stand
// first, last, and with other links' letters ahead, between and behind.
func spread() map[string][]slip {
	other := func(text string) []slip {
		return slices.Concat(row(1, 0, text), row(0, 0, text), row(1, 1, text), row(0, 2, text), row(2, 1, text))
	}
	return map[string][]slip{
		"nothing":           nil,
		"empty":             {},
		"none":              other("x"),
		"one, alone":        row(0, 1, "a"),
		"one, the first":    slices.Concat(row(0, 1, "a"), other("x")),
		"one, the last":     slices.Concat(other("x"), row(0, 1, "a")),
		"one, between":      slices.Concat(other("x"), row(0, 1, "a"), other("y")),
		"two, alone":        row(0, 1, "a", "b"),
		"two, at the ends":  slices.Concat(row(0, 1, "a"), other("x"), row(0, 1, "b")),
		"several, alone":    row(0, 1, "a", "b", "c"),
		"several, ahead":    slices.Concat(row(0, 1, "a", "b", "c"), other("x")),
		"several, behind":   slices.Concat(other("x"), row(0, 1, "a", "b", "c", "d")),
		"several, between":  slices.Concat(other("x"), row(0, 1, "a"), other("y"), row(0, 1, "b", "c"), other("z"), row(0, 1, "d", "e"), other("")),
		"the same text":     slices.Concat(row(0, 1, "a", "a"), other("a"), row(0, 1, "a", "a", "a")),
		"without a text":    slices.Concat(other(""), row(0, 1, "", ""), other(""), row(0, 1, "")),
		"some turned":       {{link{0, 1}, "a", true}, {link{1, 0}, "x", true}, {link{0, 1}, "b", false}, {link{0, 1}, "c", true}},
		"the other way too": slices.Concat(row(1, 0, "x"), row(0, 1, "a"), row(1, 0, "y"), row(0, 1, "b"), row(1, 0, "z")),
	}
}

// drawnLink is one of few links, seldom one of strangers.
func drawnLink(r *rand.Rand) link {
	if r.Intn(20) == 0 {
		return link{strangers[r.Intn(len(strangers))], strangers[r.Intn(len(strangers))]}
	}
	return link{r.Intn(3), r.Intn(3)}
}

// drawnText is up to ten bytes, of few kinds, so that some are the same.
func drawnText(r *rand.Rand) string {
	text := make([]byte, r.Intn(11))
	for i := range text {
		text[i] = "ab\x00\xff"[r.Intn(4)]
	}
	return string(text)
}

// drawnIndex is an index near 0, at an edge, or anywhere.
func drawnIndex(r *rand.Rand, many int) int {
	switch r.Intn(4) {
	case 0:
		return 0
	case 1:
		l := indexes(many)
		return l[r.Intn(len(l))]
	case 2:
		return int(r.Uint64())
	}
	return r.Intn(2*many+3) - many - 1
}

// drawnAt is a place in a text, at its end, beyond it, or below 0.
func drawnAt(r *rand.Rand) int {
	edges := []int{-1, -2, -4, math.MinInt, math.MaxInt, math.MaxInt - 1, math.MaxInt - 3, 1 << 32, -1 << 32}
	if r.Intn(5) == 0 {
		return edges[r.Intn(len(edges))]
	}
	return r.Intn(13)
}

// drawnMask is a mask of which some bytes are 0.
func drawnMask(r *rand.Rand) uint32 {
	mask := r.Uint32()
	for i := range 4 {
		if r.Intn(3) == 0 {
			mask &^= 0xff << (8 * i)
		}
	}
	return mask
}
