package ring_test

import (
	"fmt"
	"math"
	"math/rand"
	"slices"
	"strings"
	"testing"

	"congress/api"
	"congress/ring"
)

const most64 = math.MaxUint64

// list is what a ring must be like: a plain list of what is held, and its room.
type list struct {
	room int
	held []api.Entry
}

func (l *list) push(e api.Entry) bool {
	if len(l.held) >= l.room {
		return false
	}
	l.held = append(slices.Clone(l.held), e)
	return true
}

func (l *list) pop() (api.Entry, bool) {
	if len(l.held) == 0 {
		return api.Entry{}, false
	}
	e := l.held[0]
	l.held = slices.Clone(l.held[1:])
	return e, true
}

func (l *list) drop(session uint64) int {
	var stay []api.Entry
	for _, e := range l.held {
		if e.Session != session {
			stay = append(stay, e)
		}
	}
	gone := len(l.held) - len(stay)
	l.held = stay
	return gone
}

// both is a ring and the list that it is held against.
type both struct {
	t    *testing.T
	ring *ring.Ring
	list list
}

func begin(t *testing.T, room int) *both {
	t.Helper()
	r, ok := ring.New(room)
	if !ok || r == nil {
		t.Fatalf("New(%d) is %v, %v", room, r, ok)
	}
	return &both{t: t, ring: r, list: list{room: room}}
}

// turned is a ring whose first buffers were taken and given back, so that what
// is pushed next stands from another buffer on.
func turned(t *testing.T, room, by int) *both {
	t.Helper()
	b := begin(t, room)
	for range by {
		b.push(api.Entry{Session: 99})
		b.pop()
	}
	return b
}

func (b *both) push(e api.Entry) {
	b.t.Helper()
	if got, want := b.ring.Push(e), b.list.push(e); got != want {
		b.t.Fatalf("Push(%+v) is %v, not %v", e, got, want)
	}
}

func (b *both) pop() {
	b.t.Helper()
	got, ok := b.ring.Pop()
	if want, wantOk := b.list.pop(); got != want || ok != wantOk {
		b.t.Fatalf("Pop() is %+v, %v, not %+v, %v", got, ok, want, wantOk)
	}
}

func (b *both) drop(session uint64) {
	b.t.Helper()
	if got, want := b.ring.Drop(session), b.list.drop(session); got != want {
		b.t.Fatalf("Drop(%d) is %d, not %d", session, got, want)
	}
}

func (b *both) clear() {
	b.ring.Clear()
	b.list.held = nil
}

// same holds all that a ring tells without being changed against the list.
func (b *both) same() {
	b.t.Helper()
	many := len(b.list.held)
	if got := b.ring.Many(); got != many || got > b.ring.Room() {
		b.t.Fatalf("Many() is %d, not %d", got, many)
	}
	if got := b.ring.Room(); got != b.list.room {
		b.t.Fatalf("Room() is %d, not %d", got, b.list.room)
	}
	for i, want := range b.list.held {
		if got, ok := b.ring.Peek(i); got != want || !ok {
			b.t.Fatalf("Peek(%d) is %+v, %v, not %+v", i, got, ok, want)
		}
	}
	for _, i := range []int{-1, -2, -many, -64, math.MinInt, math.MinInt + 1, many, many + 1, b.list.room, 64, 128, 1 << 32, 1<<32 + 1, math.MaxInt - 1, math.MaxInt} {
		if i >= 0 && i < many {
			continue
		}
		if got, ok := b.ring.Peek(i); got != (api.Entry{}) || ok {
			b.t.Fatalf("Peek(%d) of %d is %+v, %v", i, many, got, ok)
		}
	}
}

// fill pushes entries of a session till there is no room, and one more.
func (b *both) fill(session uint64) {
	b.t.Helper()
	for i := range b.list.room + 1 {
		b.push(numbered(session, i+1))
	}
	b.same()
}

// empty pops till none is held, and once more.
func (b *both) empty() {
	b.t.Helper()
	for range b.list.room + 1 {
		b.pop()
	}
	b.same()
}

func numbered(session uint64, i int) api.Entry {
	return api.Entry{Kind: api.EntSend, Session: session, Number: uint64(i), Text: fmt.Sprint("text ", i)}
}

// entries are of all kinds, such that may not be among them: a ring holds any.
func entries() []api.Entry {
	return []api.Entry{
		{},
		{Kind: api.EntSend, Service: api.SvcAgreed, Group: 1, Session: 3, Number: 4, Text: "hi"},
		{Kind: api.EntJoin, Service: api.SvcAgreed, Group: 5, Session: 6, Number: 7},
		{Kind: api.EntLeave, Service: api.SvcAgreed, Group: 7, Session: 65535, Number: math.MaxUint32},
		{Kind: 1}, {Service: 1}, {Group: 1}, {Session: 1}, {Number: 1}, {Text: "a"}, {Text: "\x00\xff"},
		{Kind: math.MinInt, Service: math.MinInt, Group: math.MinInt},
		{Kind: math.MaxInt, Service: math.MaxInt, Group: math.MaxInt, Session: most64, Number: most64},
		{Text: strings.Repeat("x", 1<<16)},
	}
}

func rooms() []int {
	var l []int
	for room := range 65 {
		l = append(l, room)
	}
	return l
}

// P6.1: New, Room, Many.

func TestNewOfEachRoom(t *testing.T) {
	for _, room := range rooms() {
		b := begin(t, room)
		if b.ring.Room() != room || b.ring.Many() != 0 {
			t.Errorf("New(%d): Room %d, Many %d", room, b.ring.Room(), b.ring.Many())
		}
		b.same()
		b.pop()
		b.same()
	}
}

func TestNewOfNoSuchRoom(t *testing.T) {
	for _, room := range []int{-1, -2, -63, -64, -65, 65, 66, 127, 128, 255, 256, 257, 1 << 31, 1 << 32, 1<<32 + 1, 1<<32 + 64, -1 << 31, -1 << 32, -1<<32 + 1, math.MinInt, math.MinInt + 1, math.MaxInt, math.MaxInt - 1} {
		if r, ok := ring.New(room); r != nil || ok {
			t.Errorf("New(%d) is %v, %v", room, r, ok)
		}
	}
}

func TestManyCountsWhatIsHeld(t *testing.T) {
	for _, room := range rooms() {
		b := begin(t, room)
		for i := range room {
			b.push(numbered(1, i))
			if b.ring.Many() != i+1 || b.ring.Room() != room {
				t.Fatalf("room %d, %d pushed: Many %d, Room %d", room, i+1, b.ring.Many(), b.ring.Room())
			}
		}
		for i := range room {
			b.pop()
			if b.ring.Many() != room-i-1 || b.ring.Room() != room {
				t.Fatalf("room %d, %d popped: Many %d, Room %d", room, i+1, b.ring.Many(), b.ring.Room())
			}
		}
	}
}

func TestRingsAreTheirOwn(t *testing.T) {
	one, two := begin(t, 4), begin(t, 4)
	one.fill(1)
	two.same()
	two.push(numbered(2, 1))
	two.push(numbered(1, 2))
	one.drop(1)
	two.same()
	two.clear()
	one.fill(3)
	two.same()
	begin(t, 4).same()
	one.same()
}

// P6.2: the chapter's example.

func TestExample(t *testing.T) {
	a, b, c := api.Entry{Kind: 1, Text: "a"}, api.Entry{Kind: 1, Text: "b"}, api.Entry{Kind: 1, Text: "c"}
	r, ok := ring.New(2)
	if !ok {
		t.Fatal("New")
	}
	if !r.Push(a) || !r.Push(b) {
		t.Fatal("Push of what there is room for is false")
	}
	if r.Push(c) {
		t.Fatal("Push into a full ring is true")
	}
	pop := func(want api.Entry, wantOk bool) {
		if e, ok := r.Pop(); e != want || ok != wantOk {
			t.Fatalf("Pop is %+v, %v, not %+v, %v", e, ok, want, wantOk)
		}
	}
	pop(a, true)
	if !r.Push(c) {
		t.Fatal("Push behind a Pop is false")
	}
	pop(b, true)
	pop(c, true)
	pop(api.Entry{}, false)
}

// P6.2: Push.

func TestPushHoldsAnyEntryWhole(t *testing.T) {
	for _, e := range entries() {
		b := begin(t, 1)
		b.push(e)
		b.same()
		b.pop()
		b.same()
	}
	b := begin(t, len(entries()))
	for _, e := range entries() {
		b.push(e)
	}
	b.same()
	b.empty()
}

func TestPushIntoAFullRingDoesNothing(t *testing.T) {
	for _, room := range rooms() {
		for _, by := range []int{0, 1, room / 2, room - 1, room, room + 1} {
			b := turned(t, room, max(by, 0))
			for i := range room {
				if !b.ring.Push(numbered(5, i)) {
					t.Fatalf("room %d: Push %d is false", room, i)
				}
				b.list.push(numbered(5, i))
			}
			for _, e := range entries() {
				if b.ring.Push(e) {
					t.Fatalf("room %d: Push into a full ring is true", room)
				}
				b.same()
			}
			b.empty()
		}
	}
}

func TestNoRoom(t *testing.T) {
	b := begin(t, 0)
	for _, e := range entries() {
		if b.ring.Push(e) {
			t.Errorf("Push(%.40q) without room is true", e.Text)
		}
		b.same()
		b.pop()
		b.drop(e.Session)
		b.clear()
		b.same()
	}
}

func TestTheZeroEntryIsHeldAsAnyOther(t *testing.T) {
	b := begin(t, 3)
	b.push(api.Entry{})
	b.push(numbered(1, 1))
	b.push(api.Entry{})
	b.push(api.Entry{})
	b.same()
	for i := range 3 {
		if _, ok := b.ring.Peek(i); !ok {
			t.Errorf("Peek(%d) is false", i)
		}
	}
	for _, want := range []api.Entry{{}, numbered(1, 1), {}} {
		if e, ok := b.ring.Pop(); e != want || !ok {
			t.Errorf("Pop is %+v, %v, not %+v", e, ok, want)
		}
	}
	if e, ok := b.ring.Pop(); e != (api.Entry{}) || ok {
		t.Errorf("Pop of an empty ring is %+v, %v", e, ok)
	}
}

func TestAnEntryIsHeldAsOftenAsItWasPushed(t *testing.T) {
	b := begin(t, 4)
	for range 3 {
		b.push(numbered(1, 1))
	}
	b.same()
	b.pop()
	b.same()
	b.empty()
}

// P6.2: Pop.

func TestPopOfAnEmptyRingDoesNothing(t *testing.T) {
	for _, room := range rooms() {
		b := begin(t, room)
		for range 3 {
			if e, ok := b.ring.Pop(); e != (api.Entry{}) || ok {
				t.Fatalf("room %d: Pop is %+v, %v", room, e, ok)
			}
			b.same()
		}
		b.fill(1)
		b.empty()
		for range 3 {
			if e, ok := b.ring.Pop(); e != (api.Entry{}) || ok {
				t.Fatalf("room %d, emptied: Pop is %+v, %v", room, e, ok)
			}
			b.same()
		}
		b.fill(2)
		b.empty()
	}
}

// P6.2: Peek.

func TestPeekAtEachPlace(t *testing.T) {
	for _, room := range []int{1, 2, 3, 7, 63, 64} {
		for by := range room + 1 {
			b := turned(t, room, by)
			for i := range room {
				b.push(numbered(uint64(i%3), i))
				b.same()
			}
			for range room {
				b.pop()
				b.same()
			}
		}
	}
}

func TestPeekChangesNothing(t *testing.T) {
	b := turned(t, 5, 3)
	b.fill(1)
	b.pop()
	for range 20 {
		b.same()
	}
	b.push(numbered(2, 9))
	b.same()
	b.empty()
}

func TestPeekBeyondWhatIsHeld(t *testing.T) {
	b := begin(t, 4)
	b.fill(1)
	b.pop()
	b.pop()
	for _, i := range []int{-1, -2, -4, 2, 3, 4, 5, math.MinInt, math.MaxInt} {
		if e, ok := b.ring.Peek(i); e != (api.Entry{}) || ok {
			t.Errorf("Peek(%d) of two is %+v, %v", i, e, ok)
		}
	}
	for i, want := range []api.Entry{numbered(1, 3), numbered(1, 4)} {
		if e, ok := b.ring.Peek(i); e != want || !ok {
			t.Errorf("Peek(%d) is %+v, %v, not %+v", i, e, ok, want)
		}
	}
}

// P6.2: Drop.

// TestDropOfEachSmallRing goes through every small ring: each room, each
// buffer that may be first, each number of entries, each session of each.
func TestDropOfEachSmallRing(t *testing.T) {
	for room := range 6 {
		for by := range room + 1 {
			for many := range room + 1 {
				for pattern := range int(math.Pow(3, float64(many))) {
					for session := range uint64(4) {
						b := turned(t, room, by)
						for i, rest := 0, pattern; i < many; i, rest = i+1, rest/3 {
							b.push(numbered(uint64(rest%3), i))
						}
						b.drop(session)
						b.same()
						b.drop(session)
						b.fill(7)
						b.empty()
					}
				}
			}
		}
	}
}

// TestDropOfAFullRing drops from full rings of great room, gone round or not,
// entries at the beginning, in the middle and at the end.
func TestDropOfAFullRing(t *testing.T) {
	for _, room := range []int{1, 2, 31, 63, 64} {
		pieces := map[string][2]int{
			"none": {0, 0}, "all": {0, room}, "beginning": {0, room/3 + 1},
			"middle": {room / 3, 2 * room / 3}, "end": {room - room/3 - 1, room},
			"first": {0, 1}, "last": {room - 1, room}, "all but first": {1, room}, "all but last": {0, room - 1},
		}
		for name, piece := range pieces {
			for by := range room {
				b := turned(t, room, by)
				for i := range room {
					session := uint64(2)
					if i >= piece[0] && i < piece[1] {
						session = 1
					}
					b.push(numbered(session, i))
				}
				if n := b.ring.Drop(1); n != piece[1]-piece[0] {
					t.Fatalf("room %d, %s: Drop is %d", room, name, n)
				}
				b.list.drop(1)
				b.same()
				b.drop(1)
				b.same()
				b.fill(3)
				b.drop(2)
				b.same()
				b.empty()
			}
		}
	}
}

func TestDropOfEveryOtherOne(t *testing.T) {
	for by := range 64 {
		b := turned(t, 64, by)
		for i := range 64 {
			b.push(numbered(uint64(i%2), i))
		}
		b.drop(0)
		b.same()
		b.fill(0)
		b.drop(1)
		b.same()
		b.empty()
	}
}

func TestDropHoldsTheWholeSession(t *testing.T) {
	sessions := []uint64{0, 1, 255, 256, 257, 65535, 65536, 65537, 1 << 32, 1<<32 + 1, 1 << 63, 1<<63 + 1, most64 - 1, most64}
	for _, session := range sessions {
		b := begin(t, len(sessions))
		for i, s := range sessions {
			b.push(numbered(s, i))
		}
		if n := b.ring.Drop(session); n != 1 {
			t.Errorf("Drop(%d) is %d, not 1", session, n)
		}
		b.list.drop(session)
		b.same()
	}
}

func TestDropGoesByTheSessionAlone(t *testing.T) {
	b := begin(t, 8)
	b.push(api.Entry{Kind: 5, Service: 5, Group: 5, Number: 5, Text: "5"})
	b.push(api.Entry{Session: 5})
	b.push(api.Entry{})
	b.push(api.Entry{Kind: 1, Service: 2, Group: 3, Session: 5, Number: 4, Text: "hi"})
	if n := b.ring.Drop(5); n != 2 {
		t.Errorf("Drop(5) is %d", n)
	}
	b.list.drop(5)
	b.same()
}

func TestDropOfSessionZero(t *testing.T) {
	b := turned(t, 4, 3)
	b.drop(0)
	b.same()
	b.push(numbered(1, 1))
	b.drop(0)
	b.same()
	b.push(api.Entry{})
	b.push(numbered(0, 2))
	b.push(numbered(2, 3))
	if n := b.ring.Drop(0); n != 2 {
		t.Errorf("Drop(0) is %d, not 2", n)
	}
	b.list.drop(0)
	b.same()
	b.empty()
}

// P6.2: Clear.

func TestClear(t *testing.T) {
	for _, room := range rooms() {
		for _, many := range []int{0, 1, room / 2, room} {
			b := turned(t, room, room/2+1)
			for i := range many {
				b.push(numbered(1, i))
			}
			b.clear()
			b.same()
			b.pop()
			b.drop(1)
			b.drop(0)
			b.clear()
			b.same()
			b.fill(2)
			b.drop(1)
			b.empty()
		}
	}
}

// P6.3: the order, each once, never more than there is room.

func TestRingsGoRoundManyTimes(t *testing.T) {
	for _, room := range rooms() {
		for _, held := range []int{0, 1, room / 2, room - 1} {
			if held < 0 || held >= room {
				continue
			}
			r, _ := ring.New(room)
			pushed, popped := 0, 0
			push := func() {
				if !r.Push(numbered(uint64(pushed), pushed)) {
					t.Fatalf("room %d, %d held: Push %d is false", room, r.Many(), pushed)
				}
				pushed++
			}
			for range held {
				push()
			}
			for range 10*room + 10 {
				push()
				if e, ok := r.Pop(); e != numbered(uint64(popped), popped) || !ok {
					t.Fatalf("room %d: Pop %d is %+v, %v", room, popped, e, ok)
				}
				popped++
				if r.Many() != held || r.Room() != room {
					t.Fatalf("room %d: Many %d, Room %d", room, r.Many(), r.Room())
				}
			}
		}
	}
}

// TestPopsTellEachPushOnce draws pushes and pops, and holds the row of what
// was popped against the row of what was taken in.
func TestPopsTellEachPushOnce(t *testing.T) {
	draw := rand.New(rand.NewSource(6))
	for _, room := range rooms() {
		r, _ := ring.New(room)
		var in, out []api.Entry
		for i := range 3000 {
			if draw.Intn(2) == 0 {
				if e := numbered(uint64(i%5), i); r.Push(e) {
					in = append(in, e)
				}
			} else if e, ok := r.Pop(); ok {
				out = append(out, e)
			}
			if many := len(in) - len(out); r.Many() != many || many > room {
				t.Fatalf("room %d: Many %d, not %d", room, r.Many(), many)
			}
		}
		for e, ok := r.Pop(); ok; e, ok = r.Pop() {
			out = append(out, e)
		}
		if !slices.Equal(in, out) {
			t.Errorf("room %d: what was popped is not what was pushed", room)
		}
	}
}

// step does one of the calls, told by a number.
func (b *both) step(call, i int) {
	b.t.Helper()
	switch call {
	case 0:
		b.push(numbered(0, i))
	case 1:
		b.push(numbered(1, i))
	case 2:
		b.pop()
	case 3:
		b.drop(0)
	case 4:
		b.clear()
	}
}

// TestAllShortRuns goes through every row of seven calls, in small rings.
func TestAllShortRuns(t *testing.T) {
	for room := range 4 {
		for run := range 5 * 5 * 5 * 5 * 5 * 5 * 5 {
			b := begin(t, room)
			for i, rest := 0, run; i < 7; i, rest = i+1, rest/5 {
				b.step(rest%5, i)
			}
			b.same()
			b.empty()
		}
	}
}

func TestDrawnRuns(t *testing.T) {
	draw := rand.New(rand.NewSource(66))
	for _, room := range rooms() {
		b := begin(t, room)
		// How often is pushed changes, so that the ring is full, empty and
		// between for a while.
		for i := range 6000 {
			pushes := []int{30, 50, 70}[i/200%3]
			switch n := draw.Intn(100); {
			case n == 0 && draw.Intn(4) == 0:
				b.clear()
			case n < 3:
				b.drop(uint64(draw.Intn(6)))
			case n < pushes:
				b.push(numbered(uint64(draw.Intn(5)), i))
			default:
				b.pop()
			}
			b.same()
		}
		b.empty()
	}
}

// R4: what is answered, and what was handed in, is the caller's own.

func TestAnswersAreTheCallersOwn(t *testing.T) {
	b := begin(t, 2)
	e := numbered(1, 1)
	b.push(e)
	e.Session, e.Text = 2, "changed"
	b.same()
	peeked, _ := b.ring.Peek(0)
	peeked.Session, peeked.Text = 2, "changed"
	b.same()
	popped, _ := b.ring.Pop()
	b.list.pop()
	b.push(numbered(3, 3))
	b.push(numbered(4, 4))
	if popped != numbered(1, 1) {
		t.Errorf("what was popped has become %+v", popped)
	}
	b.same()
}

// TestNothingOfWhatIsHeldNoMoreIsLeft looks at all that a ring's fields hold.
func TestNothingOfWhatIsHeldNoMoreIsLeft(t *testing.T) {
	const secret = "nobody else's"
	mine := api.Entry{Kind: 1, Session: 7, Text: secret}
	ends := map[string]func(r *ring.Ring){
		"Pop": func(r *ring.Ring) {
			for range r.Room() {
				r.Pop()
			}
		},
		"Drop":  func(r *ring.Ring) { r.Drop(7) },
		"Clear": func(r *ring.Ring) { r.Clear() },
	}
	for name, end := range ends {
		for by := range 4 {
			for _, others := range []int{0, 1, 3} {
				b := turned(t, 4, by)
				for i := range others {
					b.push(numbered(1, i))
				}
				for b.ring.Push(mine) {
				}
				if !strings.Contains(fmt.Sprint(b.ring), secret) {
					t.Fatal("what is held is not to be found in the ring")
				}
				if end(b.ring); strings.Contains(fmt.Sprint(b.ring), secret) {
					t.Errorf("behind %s the ring is %v", name, b.ring)
				}
			}
		}
	}
}

// P1: none of the calls panics, in any order, at any argument.

func TestNoCallPanics(t *testing.T) {
	ints := []int{math.MinInt, math.MinInt + 1, -65, -64, -1, 0, 1, 63, 64, 65, math.MaxInt - 1, math.MaxInt}
	sessions := []uint64{0, 1, 65536, 1 << 63, most64}
	draw := rand.New(rand.NewSource(1))
	for _, room := range ints {
		r, ok := ring.New(room)
		if ok != (room >= 0 && room <= 64) || ok != (r != nil) {
			t.Fatalf("New(%d) is %v, %v", room, r, ok)
		}
		if !ok {
			continue
		}
		for range 5000 {
			r.Push(entries()[draw.Intn(13)])
			r.Peek(ints[draw.Intn(len(ints))])
			if draw.Intn(3) == 0 {
				r.Pop()
			}
			if draw.Intn(50) == 0 {
				r.Drop(sessions[draw.Intn(len(sessions))])
			}
			if draw.Intn(200) == 0 {
				r.Clear()
			}
			if r.Many() < 0 || r.Many() > room || r.Room() != room {
				t.Fatalf("room %d: Many %d, Room %d", room, r.Many(), r.Room())
			}
		}
	}
}
