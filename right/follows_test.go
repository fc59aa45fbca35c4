package right_test

import (
	"fmt"
	"math/rand"
	"slices"
	"testing"

	"congress/api"
	"congress/right"
)

// The kinds of what is done to a table.
const (
	doMint = iota
	doRevoke
	doDrop
)

// event is something that was done to a table, told without the program's
// packages.
type event struct {
	what            int
	handle, session uint64
	give            int
}

// chronicle is all that was done, from an empty table on, with what had no
// effect left away. It has no table: what a handle gives is told of what was
// done alone.
type chronicle []event

// last is the last minting of a handle, and all that was done behind it.
func (c chronicle) last(handle uint64) (event, chronicle, bool) {
	for i := len(c) - 1; i >= 0; i-- {
		if c[i].what == doMint && c[i].handle == handle {
			return c[i], c[i+1:], true
		}
	}
	return event{}, nil, false
}

// has tells whether something of this kind was done.
func (c chronicle) has(what int, handle, session uint64) bool {
	return slices.ContainsFunc(c, func(e event) bool {
		return e.what == what && (what == doRevoke && e.handle == handle || what == doDrop && e.session == session)
	})
}

// stands tells whether a handle was minted, and not dropped since.
func (c chronicle) stands(handle uint64) bool {
	e, since, ok := c.last(handle)
	return ok && !since.has(doDrop, 0, e.session)
}

// holds tells whether a handle is valid: it stands, and was not revoked.
func (c chronicle) holds(handle uint64) bool {
	_, since, _ := c.last(handle)
	return c.stands(handle) && !since.has(doRevoke, handle, 0)
}

// checked is what a handle gives.
func (c chronicle) checked(handle uint64, want int) (uint64, int) {
	e, _, _ := c.last(handle)
	if c.holds(handle) && gives(e.give, want) {
		return e.session, fine
	}
	return 0, noRight
}

// cards is what stands, in the order of minting.
func (c chronicle) cards() []card {
	var l []card
	for i, e := range c {
		if _, since, _ := c.last(e.handle); e.what == doMint && len(since) == len(c)-i-1 && c.stands(e.handle) {
			l = append(l, card{e.handle, e.session, e.give, !c.holds(e.handle)})
		}
	}
	return l
}

// would is which error something is refused with.
func (c chronicle) would(e event) int {
	_, isSum := parts[e.give]
	switch {
	case e.what == doMint && (e.handle == 0 || c.stands(e.handle) || !isSum):
		return badArg
	case e.what == doMint && len(c.cards()) >= 16:
		return full
	case e.what == doRevoke && !c.holds(e.handle):
		return noRight
	}
	return fine
}

// book is a table, beside the chronicle of what was done to it.
type book struct {
	t     *testing.T
	table []api.Right
	done  chronicle
	codes map[string]int
}

func newBook(t *testing.T) *book {
	return &book{t: t, codes: map[string]int{}}
}

// do does something to the table, and asks that it is refused, or not, as the
// chronicle says, and that the table is what was done.
func (b *book) do(e event) int {
	b.t.Helper()
	want := b.done.would(e)
	var got []api.Right
	code := api.OK
	switch e.what {
	case doMint:
		got, code = right.Mint(b.table, e.handle, e.session, e.give)
	case doRevoke:
		got, code = right.Revoke(b.table, e.handle)
	default:
		got = right.Drop(b.table, e.session)
	}
	if int(code) != want || code != api.OK && len(got) != 0 {
		b.t.Fatalf("%+v behind %+v: error %d and %s, not error %d", e, b.done, code, short(cardsOf(got)), want)
	}
	if code == api.OK {
		b.table, b.done = got, append(b.done, e)
	}
	b.codes[fmt.Sprintf("%d %d", e.what, want)]++
	if l := b.done.cards(); !slices.Equal(cardsOf(b.table), l) || !right.May(b.table) {
		b.t.Fatalf("behind %+v is %s, not %s", b.done, short(cardsOf(b.table)), short(l))
	}
	return want
}

// ask asks that each of some handles gives what the chronicle says, and no more.
func (b *book) ask(handles []uint64) {
	b.t.Helper()
	for _, handle := range handles {
		for want := -1; want <= 8; want++ {
			session, code := right.Check(b.table, handle, want)
			if s, e := b.done.checked(handle, want); session != s || int(code) != e {
				b.t.Fatalf("Check %d, want %d, behind %+v: %d, error %d, not %d, error %d", handle, want, b.done, session, code, s, e)
			}
			b.codes[fmt.Sprintf("check %d", code)]++
		}
	}
}

// drawnEvent is something to be done with few handles and sessions.
func drawnEvent(r *rand.Rand, handles, sessions []uint64) event {
	e := event{what: doMint, handle: handles[r.Intn(len(handles))], session: sessions[r.Intn(len(sessions))], give: 1 + r.Intn(7)}
	if r.Intn(10) == 0 {
		e.give = drawnGift(r)
	}
	switch r.Intn(30) {
	case 0, 1, 2, 3, 4, 5, 6:
		e.what = doRevoke
	case 7:
		e.what = doDrop
	}
	return e
}

// someNumbers are as many different numbers, of which some are at edges.
func someNumbers(r *rand.Rand, many int) []uint64 {
	var l []uint64
	for len(l) < many {
		n := uint64(r.Intn(3 * many))
		if r.Intn(4) == 0 {
			n = oddNumbers[r.Intn(len(oddNumbers))]
		}
		if !slices.Contains(l, n) {
			l = append(l, n)
		}
	}
	return l
}

// P16.3: drawn mints, revokes and drops from an empty table on; behind each of
// them every handle gives what was done, no more.
func TestDrawnBooks(t *testing.T) {
	codes := map[string]int{}
	for seed := range int64(120) {
		r := rand.New(rand.NewSource(1630 + seed))
		handles, sessions := someNumbers(r, 4+r.Intn(30)), someNumbers(r, 3+r.Intn(9))
		b := newBook(t)
		for range 70 {
			b.do(drawnEvent(r, handles, sessions))
			b.ask(handles)
			b.ask([]uint64{0, handles[0] + 1, most, r.Uint64()})
		}
		for what, many := range b.codes {
			codes[what] += many
		}
	}
	for _, what := range []string{"0 0", "0 1", "0 161", "1 0", "1 160", "2 0", "check 0", "check 160"} {
		if codes[what] < 200 {
			t.Errorf("%s came %d times: %v", what, codes[what], codes)
		}
	}
}

// P16.3: with other handles, and other sessions, one for one, all is the same.
func TestOtherNames(t *testing.T) {
	for seed := range int64(60) {
		r := rand.New(rand.NewSource(1730 + seed))
		sessions, others := someNumbers(r, 4), someNumbers(r, 4)
		handles, names := slices.DeleteFunc(someNumbers(r, 21), isZero), slices.DeleteFunc(someNumbers(r, 21), isZero)
		handles, names = handles[:20], names[:20]
		one, other := newBook(t), newBook(t)
		for range 80 {
			e := drawnEvent(r, handles, sessions)
			renamed := e
			renamed.handle = names[slices.Index(handles, e.handle)]
			renamed.session = others[slices.Index(sessions, e.session)]
			if a, b := one.do(e), other.do(renamed); a != b {
				t.Fatalf("seed %d: %+v is error %d, %+v error %d", seed, e, a, renamed, b)
			}
			for i, handle := range handles {
				for want := 1; want <= 7; want++ {
					a, code := right.Check(one.table, handle, want)
					b, second := right.Check(other.table, names[i], want)
					if code != second || code == api.OK && others[slices.Index(sessions, a)] != b {
						t.Fatalf("seed %d: Check %d is %d, error %d, Check %d is %d, error %d", seed, handle, a, code, names[i], b, second)
					}
				}
			}
		}
	}
}

func isZero(n uint64) bool { return n == 0 }

// P16.3: what was minted gives what it was minted for, for its session, whatever
// is minted, revoked or dropped beside it.
func TestGivesOn(t *testing.T) {
	r := rand.New(rand.NewSource(1830))
	for give := 1; give <= 7; give++ {
		for range 20 {
			b := newBook(t)
			for range r.Intn(10) {
				b.do(drawnEvent(r, []uint64{1, 2, 3, 4}, []uint64{1, 2, 0}))
			}
			b.do(event{doMint, 9, 5, give})
			for range 40 {
				b.do(drawnEvent(r, []uint64{1, 2, 3, 4, 5, 6, 7, 8, 10, 11, 12, 13, 14, 15, 16, most}, []uint64{1, 2, 0, most}))
				for want := 1; want <= 7; want++ {
					session, code := right.Check(b.table, 9, want)
					if (code == api.OK) != (want&^give == 0) || code == api.OK && session != 5 {
						t.Fatalf("give %d, want %d: %d, error %d, behind %+v", give, want, session, code, b.done)
					}
				}
			}
		}
	}
}

// P16.3: what was revoked gives nothing, whatever is minted behind it, its own
// handle too: that is refused while it stands.
func TestNothingBehindRevoke(t *testing.T) {
	r := rand.New(rand.NewSource(1930))
	for range 100 {
		b := newBook(t)
		b.do(event{doMint, 9, 5, 7})
		b.do(event{doRevoke, 9, 0, 0})
		for range 40 {
			e := drawnEvent(r, []uint64{9, 9, 1, 2, 8, 10}, []uint64{1, 2})
			code := b.do(e)
			if e.handle == 9 && (e.what == doMint && code != badArg || e.what == doRevoke && code != noRight) {
				t.Fatalf("%+v: error %d", e, code)
			}
			for want := 1; want <= 7; want++ {
				if session, code := right.Check(b.table, 9, want); session != 0 || code != api.ErrRight {
					t.Fatalf("revoked, and Check is %d, error %d, behind %+v", session, code, b.done)
				}
			}
		}
	}
}

// P16.3: what was dropped gives nothing, whatever is minted behind it. Its handle
// is free then: minted again it is another capability, and gives what that one
// was minted for.
func TestNothingBehindDrop(t *testing.T) {
	for _, gone := range []bool{false, true} {
		b := newBook(t)
		b.do(event{doMint, 9, 5, 7})
		b.do(event{doMint, 8, 5, 7})
		if gone {
			b.do(event{doRevoke, 9, 0, 0})
		}
		b.do(event{doDrop, 0, 5, 0})
		for n := range uint64(12) {
			b.do(event{doMint, 20 + n, 5, 7})
			b.ask([]uint64{8, 9})
			for want := 1; want <= 7; want++ {
				if session, code := right.Check(b.table, 9, want); session != 0 || code != api.ErrRight {
					t.Fatalf("dropped, and Check is %d, error %d", session, code)
				}
			}
		}
		isCode(t, "minted again", b.do(event{doMint, 9, 6, 2}), fine)
		if session, code := right.Check(b.table, 9, 2); session != 6 || code != api.OK {
			t.Fatalf("minted again, and Check is %d, error %d", session, code)
		}
		if _, code := right.Check(b.table, 9, 4); code != api.ErrRight {
			t.Fatal("what was dropped gives again")
		}
		b.ask([]uint64{0, 8, 9, 20, 31, 32})
	}
}

// P16.3: no other handle does, however near it is.
func TestNoOtherHandle(t *testing.T) {
	for _, handle := range oddNumbers[1:] {
		b := newBook(t)
		b.do(event{doMint, handle, handle + 1, 7})
		b.ask(near(handle))
		b.ask([]uint64{0, handle, handle + 1})
	}
}

// Mints of one table share nothing: what is minted behind the one is not seen in
// the other.
func TestTwoMints(t *testing.T) {
	for many := range 15 {
		x := tableOf(hand(many))
		one, e := right.Mint(x, 8, 1, 1)
		other, f := right.Mint(x, 9, 2, 2)
		third, g := right.Mint(one, 7, 3, 4)
		if e != api.OK || f != api.OK || g != api.OK {
			t.Fatal(e, f, g)
		}
		want := append(hand(many), card{8, 1, 1, false})
		fourth, _ := right.Mint(one, 6, 4, 4)
		if !slices.Equal(cardsOf(one), want) || other[many] != (api.Right{Handle: 9, Session: 2, Give: 2}) || third[many+1].Handle != 7 || fourth[many+1].Handle != 6 {
			t.Fatalf("minted %s, %s, %s, %s", short(cardsOf(one)), short(cardsOf(other)), short(cardsOf(third)), short(cardsOf(fourth)))
		}
	}
}
