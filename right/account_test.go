package right_test

import (
	"fmt"
	"math"
	"math/big"
	"math/rand"
	"reflect"
	"slices"
	"testing"
	"time"

	"congress/api"
	"congress/right"
)

const (
	most     = math.MaxUint64
	least    = math.MinInt
	greatest = math.MaxInt
)

// The errors' numbers, as the chapter says them.
const (
	fine    = 0
	badArg  = 1
	noRight = 160
	full    = 161
)

// wrongGifts are numbers that are no sum of 1, 2 and 4.
var wrongGifts = []int{0, 8, -1, least, greatest, 9, 15, 16, -2, -7, -8, least + 1, greatest - 1, 1 << 32, 1<<32 + 1, 1<<32 + 7, -1 << 32, -1<<32 + 3, 1 << 31, 1<<8 + 2, 1<<16 + 4, 1<<62 + 5}

// oddNumbers are handles and sessions at the edges of their type, and numbers
// that are the same in some of their bits.
var oddNumbers = []uint64{0, 1, 2, 9, most, most - 1, 1 << 63, 1<<63 + 9, 1 << 32, 1<<32 + 9, math.MaxUint32, 1 << 31, 1<<31 + 9, 1<<16 + 9, 1<<8 + 9, 1<<53 + 1, 1 << 53}

// card is a capability, told without the program's packages.
type card struct {
	handle, session uint64
	give            int
	revoked         bool
}

// String tells a card in few words.
func (c card) String() string {
	word := ""
	if c.revoked {
		word = " revoked"
	}
	return fmt.Sprintf("[%d for %d gives %d%s]", c.handle, c.session, c.give, word)
}

// firsts is where in l each handle stands first.
func firsts(l []card) map[uint64]int {
	at := map[uint64]int{}
	for i := len(l) - 1; i >= 0; i-- {
		at[l[i].handle] = i
	}
	return at
}

// parts are the sums of 1, 2 and 4, each with which of the three it is made of.
var parts = map[int][]int{1: {0}, 2: {1}, 3: {0, 1}, 4: {2}, 5: {0, 2}, 6: {1, 2}, 7: {0, 1, 2}}

// gives tells whether a number, which may be any, has all parts of a sum.
func gives(give, want int) bool {
	need, isSum := parts[want]
	for _, bit := range need {
		if big.NewInt(int64(give)).Bit(bit) == 0 {
			return false
		}
	}
	return isSum
}

// minted is the account of Mint.
func minted(l []card, handle, session uint64, give int) ([]card, int) {
	_, stands := firsts(l)[handle]
	_, isSum := parts[give]
	switch {
	case handle == 0, stands, !isSum:
		return nil, badArg
	case len(l) > 15:
		return nil, full
	}
	return append(slices.Clone(l), card{handle, session, give, false}), fine
}

// checked is the account of Check.
func checked(l []card, handle uint64, want int) (uint64, int) {
	at, stands := firsts(l)[handle]
	if stands && !l[at].revoked && gives(l[at].give, want) {
		return l[at].session, fine
	}
	return 0, noRight
}

// revoked is the account of Revoke.
func revoked(l []card, handle uint64) ([]card, int) {
	at, stands := firsts(l)[handle]
	if !stands || l[at].revoked {
		return nil, noRight
	}
	l = slices.Clone(l)
	l[at].revoked = true
	return l, fine
}

// dropped is the account of Drop.
func dropped(l []card, session uint64) []card {
	var left []card
	for _, c := range l {
		if c.session != session {
			left = append(left, c)
		}
	}
	return left
}

// isTable is the account of May.
func isTable(l []card) bool {
	handles := map[uint64]bool{0: true}
	for _, c := range l {
		_, isSum := parts[c.give]
		if handles[c.handle] || !isSum {
			return false
		}
		handles[c.handle] = true
	}
	return len(l) < 17
}

// room is what stands behind a list that is given.
var room = []card{{9, 1, 7, false}, {77, 78, 6, true}, {5, 5, 5, false}}

// tableOf is the program's form of cards, in a list with room behind it in which
// something stands, so that writing there is seen.
func tableOf(l []card) []api.Right {
	var list []api.Right
	for _, c := range slices.Concat(l, room) {
		list = append(list, api.Right{Handle: c.handle, Session: c.session, Give: c.give, Revoked: c.revoked})
	}
	return slices.Clip(list)[:len(l)]
}

// cardsOf is the account's form of a table.
func cardsOf(t []api.Right) []card {
	var l []card
	for _, r := range t {
		l = append(l, card{r.Handle, r.Session, r.Give, r.Revoked})
	}
	return l
}

// short is the beginning of cards, to be told of a test that failed.
func short(l []card) string {
	return fmt.Sprintf("%d: %v", len(l), l[:min(len(l), 20)])
}

// untouched asks that a table made by tableOf is what it was, with the room
// behind it.
func untouched(t *testing.T, call string, table []api.Right, l []card) {
	t.Helper()
	want := slices.Concat(l, room)
	all := cardsOf(table[:len(want)])
	if len(table) != len(l) || !slices.Equal(all, want) {
		t.Fatalf("%s: the table of %s became that of %s", call, short(want), short(all))
	}
}

// overlap tells whether two lists, with the room behind them, share memory.
func overlap(a, b []api.Right) bool {
	one, other := reflect.ValueOf(a), reflect.ValueOf(b)
	size := one.Type().Elem().Size()
	return one.Pointer() < other.Pointer()+uintptr(cap(b))*size && other.Pointer() < one.Pointer()+uintptr(cap(a))*size
}

// agreeTable asks that a call that answers a table says, each time, what the
// account says, leaves alone what it was given, and answers memory of its own.
func agreeTable(t *testing.T, name string, l, want []card, wantCode int, call func([]api.Right) ([]api.Right, api.Errno)) ([]card, int) {
	t.Helper()
	name += " of " + short(l)
	given := tableOf(l)
	got, code := call(given)
	untouched(t, name, given, l)
	cards := cardsOf(got)
	if !slices.Equal(cards, want) || int(code) != wantCode {
		t.Fatalf("%s is %s, error %d, not %s, error %d", name, short(cards), code, short(want), wantCode)
	}
	again, second := call(given)
	if !slices.Equal(cardsOf(again), want) || second != code {
		t.Fatalf("%s is another time %s, error %d, not %s, error %d", name, short(cardsOf(again)), second, short(want), wantCode)
	}
	if overlap(got, given) || overlap(again, given) || overlap(got, again) {
		t.Fatalf("%s shares memory", name)
	}
	return cards, int(code)
}

// agreeMint asks that Mint says what the account says.
func agreeMint(t *testing.T, l []card, handle, session uint64, give int) ([]card, int) {
	t.Helper()
	want, code := minted(l, handle, session, give)
	return agreeTable(t, fmt.Sprintf("Mint %d for %d, give %d,", handle, session, give), l, want, code, func(x []api.Right) ([]api.Right, api.Errno) {
		return right.Mint(x, handle, session, give)
	})
}

// agreeRevoke asks that Revoke says what the account says.
func agreeRevoke(t *testing.T, l []card, handle uint64) ([]card, int) {
	t.Helper()
	want, code := revoked(l, handle)
	return agreeTable(t, fmt.Sprintf("Revoke %d", handle), l, want, code, func(x []api.Right) ([]api.Right, api.Errno) {
		return right.Revoke(x, handle)
	})
}

// agreeDrop asks that Drop says what the account says.
func agreeDrop(t *testing.T, l []card, session uint64) []card {
	t.Helper()
	got, _ := agreeTable(t, fmt.Sprintf("Drop %d", session), l, dropped(l, session), fine, func(x []api.Right) ([]api.Right, api.Errno) {
		return right.Drop(x, session), api.OK
	})
	return got
}

// agreeCheck asks that Check says what the account says.
func agreeCheck(t *testing.T, l []card, handle uint64, want int) (uint64, int) {
	t.Helper()
	given := tableOf(l)
	session, code := right.Check(given, handle, want)
	untouched(t, "Check", given, l)
	if wantSession, wantCode := checked(l, handle, want); session != wantSession || int(code) != wantCode {
		t.Fatalf("Check %d, want %d, of %s is %d, error %d, not %d, error %d", handle, want, short(l), session, code, wantSession, wantCode)
	}
	return session, int(code)
}

// agreeMay asks that May says what the account says.
func agreeMay(t *testing.T, l []card) bool {
	t.Helper()
	given := tableOf(l)
	got := right.May(given)
	untouched(t, "May", given, l)
	if want := isTable(l); got != want {
		t.Fatalf("May of %s is %v, not %v", short(l), got, want)
	}
	return got
}

// isCode asks that an error is the one that is wanted.
func isCode(t *testing.T, what string, got, want int) {
	t.Helper()
	if got != want {
		t.Fatalf("%s: error %d, not %d", what, got, want)
	}
}

// hand is as many cards that may stand in a table, of three sessions.
func hand(many int) []card {
	var l []card
	for i := range many {
		l = append(l, card{100 + uint64(i), 1 + uint64(i%3), 1 + i%7, false})
	}
	return l
}

// drawnNumber is one of few numbers, seldom one at an edge, or any.
func drawnNumber(r *rand.Rand) uint64 {
	switch r.Intn(8) {
	case 0:
		return oddNumbers[r.Intn(len(oddNumbers))]
	case 1:
		return r.Uint64()
	}
	return uint64(r.Intn(6))
}

// drawnGift is a sum of 1, 2 and 4, seldom another number.
func drawnGift(r *rand.Rand) int {
	switch r.Intn(8) {
	case 0:
		return wrongGifts[r.Intn(len(wrongGifts))]
	case 1:
		return int(r.Uint64())
	}
	return 1 + r.Intn(7)
}

// drawnCards is up to as many cards, of which some, or all, may not be.
func drawnCards(r *rand.Rand, many int) []card {
	var l []card
	for range r.Intn(many + 1) {
		l = append(l, card{drawnNumber(r), drawnNumber(r), drawnGift(r), r.Intn(3) == 0})
	}
	return l
}

// ends asks that a call ends, without a panic.
func ends(t *testing.T, name string, call func()) {
	t.Helper()
	done := make(chan any)
	go func() {
		defer func() { done <- recover() }()
		call()
	}()
	select {
	case what := <-done:
		if what != nil {
			t.Fatalf("%s: a panic: %v", name, what)
		}
	case <-time.After(time.Minute):
		t.Fatalf("%s does not end", name)
	}
}
