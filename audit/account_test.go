package audit_test

import (
	"fmt"
	"math"
	"math/big"
	"math/rand"
	"reflect"
	"regexp"
	"slices"
	"strings"
	"testing"
	"time"

	"congress/api"
	"congress/audit"
)

const (
	leastInt = math.MinInt
	mostInt  = math.MaxInt
	mostTick = math.MaxUint32
	most     = math.MaxUint64
)

// alone are the bytes of a call that stand in a line as they are.
const alone = " !#$&'()*+,-./0123456789:;<=>?@ABCDEFGHIJKLMNOPQRSTUVWXYZ[\\]^_`abcdefghijklmnopqrstuvwxyz{|}~"

var oddNumbers = []uint64{0, 1, 2, 9, 10, 11, 99, 100, 1<<32 - 1, 1 << 32, 1<<63 - 1, 1 << 63, 1<<64 - 10, most - 1, most}

var oddTicks = []uint32{0, 1, 7, 9, 10, 11, 99, 100, 1<<31 - 1, 1 << 31, mostTick - 1, mostTick}

var oddCodes = []int{0, 1, -1, 9, -9, 10, -10, 160, 278, 1<<31 - 1, 1 << 31, -1 << 31, 1 << 32, leastInt, leastInt + 1, mostInt - 1, mostInt}

// oddCalls are calls at the edges that the document names, and some that look
// like parts of a line, or like what bytes become there.
var oddCalls = []string{
	"", "open", `"`, "%", " ", "\x1f", "\x20", "\x7e", "\x7f", "\xff", "\x00", "\n", "\r\n", "a\"b", "a\"b%\x00", `\`, `\n`,
	"%2", "%22", "%%", "%25", "%41", "%g", "1 7 0 \"open\"\n", "\"\n", "\n\"", "  ", " a ", "\"\"", "é", "\xc3", "\u2028", "\xef\xbb\xbf", "\x00\x00",
}

// note is a record, told without the program's packages.
type note struct {
	number uint64
	tick   uint32
	call   string
	code   int
}

// book is records, one behind the other.
type book []note

// String tells the beginning of a book, of a test that failed.
func (b book) String() string {
	return fmt.Sprintf("[%d: %.300q]", len(b), fmt.Sprint([]note(b[:min(len(b), 20)])))
}

func (b book) same(other book) bool { return slices.Equal(b, other) }

// add is the account of Add.
func (b book) add(tick uint32, call string, code int) book {
	if n := len(b); n > 0 && b[n-1].tick > tick {
		tick = b[n-1].tick
	}
	return append(slices.Clone(b), note{uint64(len(b) + 1), tick, call, code})
}

// check is the account of Check.
func (b book) check() bool {
	for i := range b {
		if b[i].number != uint64(i+1) {
			return false
		}
		for j := range i {
			if i-j == 1 && b[j].tick > b[i].tick {
				return false
			}
		}
	}
	return true
}

// failed is the account of Failed.
func (b book) failed() int {
	good := 0
	for _, n := range b {
		if n.code == 0 {
			good++
		}
	}
	return len(b) - good
}

// line is the account of Line.
func (n note) line() string {
	var call strings.Builder
	for _, c := range []byte(n.call) {
		if strings.IndexByte(alone, c) >= 0 {
			call.WriteByte(c)
		} else {
			fmt.Fprintf(&call, "%%%02x", c)
		}
	}
	return fmt.Sprintf("%d %d %d \"%s\"\n", n.number, n.tick, n.code, &call)
}

// text is the account of Text.
func (b book) text() string {
	var s strings.Builder
	for _, n := range b {
		s.WriteString(n.line())
	}
	return s.String()
}

// form is what a line looks like; which numbers and which bytes may be is asked
// beside it.
var form = regexp.MustCompile(`\A(0|[1-9][0-9]*) (0|[1-9][0-9]*) (0|-?[1-9][0-9]*) "((?:[ !#$&-~]|%[0-9a-f]{2})*)"\n\z`)

var coded = regexp.MustCompile(`%..`)

// between tells the number that digits are, where it stands between two others.
func between(digits string, least, most *big.Int) (*big.Int, bool) {
	n, ok := new(big.Int).SetString(digits, 10)
	return n, ok && n.Cmp(least) >= 0 && n.Cmp(most) <= 0
}

// noteOf is the account of Parse.
func noteOf(s string) (note, bool) {
	parts := form.FindStringSubmatch(s)
	if parts == nil {
		return note{}, false
	}
	none := big.NewInt(0)
	number, ok1 := between(parts[1], none, new(big.Int).SetUint64(most))
	tick, ok2 := between(parts[2], none, big.NewInt(mostTick))
	code, ok3 := between(parts[3], big.NewInt(leastInt), big.NewInt(mostInt))
	ok := ok1 && ok2 && ok3
	call := coded.ReplaceAllStringFunc(parts[4], func(three string) string {
		var c int
		fmt.Sscanf(three, "%%%x", &c)
		ok = ok && strings.IndexByte(alone, byte(c)) < 0
		return string([]byte{byte(c)})
	})
	if !ok {
		return note{}, false
	}
	return note{number.Uint64(), uint32(tick.Uint64()), call, int(code.Int64())}, true
}

// bookOf is the account of Read.
func bookOf(s string) (book, bool) {
	var b book
	for len(s) > 0 {
		end := strings.IndexByte(s, '\n') + 1
		if end == 0 {
			return nil, false
		}
		n, ok := noteOf(s[:end])
		if !ok {
			return nil, false
		}
		b, s = append(b, n), s[end:]
	}
	if !b.check() {
		return nil, false
	}
	return b, true
}

// record is the program's form of a note.
func (n note) record() api.Record {
	return api.Record{Number: n.number, Tick: n.tick, Call: n.call, Code: api.Errno(n.code)}
}

func (n note) of(r api.Record) bool { return r == n.record() }

// room is what stands behind a list that is given.
var room = book{{9, 9, "room", 9}, {0, 0, "", 0}, {most, mostTick, "\x00", leastInt}}

// listOf is the program's form of a book, in a list with room behind it in which
// something stands, so that writing there is seen.
func listOf(b book) []api.Record {
	var l []api.Record
	for _, n := range slices.Concat(b, room) {
		l = append(l, n.record())
	}
	return slices.Clip(l)[:len(b)]
}

// notesOf is the account's form of records.
func notesOf(l []api.Record) book {
	var b book
	for _, r := range l {
		b = append(b, note{r.Number, r.Tick, r.Call, int(r.Code)})
	}
	return b
}

// untouched asks that a list made by listOf is what it was, with the room behind
// it.
func untouched(t *testing.T, call string, l []api.Record, b book) {
	t.Helper()
	want := slices.Concat(b, room)
	if all := notesOf(l[:len(want)]); len(l) != len(b) || !all.same(want) {
		t.Fatalf("%s: what was given became %s, not %s", call, all, want)
	}
}

// overlap tells whether two of some lists, with the room behind them, share
// memory.
func overlap(lists ...[]api.Record) bool {
	var from, to []uintptr
	for _, l := range lists {
		v := reflect.ValueOf(l)
		from = append(from, v.Pointer())
		to = append(to, v.Pointer()+uintptr(v.Cap())*v.Type().Elem().Size())
	}
	for i := range lists {
		for j := range i {
			if from[i] < to[j] && from[j] < to[i] {
				return true
			}
		}
	}
	return false
}

// agreeAdd asks that Add says, each time, what the account says, leaves alone
// what it was given, and answers memory of its own.
func agreeAdd(t *testing.T, b book, tick uint32, call string, code int) book {
	t.Helper()
	name := fmt.Sprintf("Add of %d, %.50q, %d to %s", tick, call, code, b)
	want := b.add(tick, call, code)
	given := listOf(b)
	got := audit.Add(given, tick, call, api.Errno(code))
	other := audit.Add(given, tick, "another call", 5)
	again := audit.Add(given, tick, call, api.Errno(code))
	if !notesOf(got).same(want) || !notesOf(again).same(want) {
		t.Fatalf("%s is %s, another time %s, not %s", name, notesOf(got), notesOf(again), want)
	}
	untouched(t, name, given, b)
	if overlap(given, got, other, again) {
		t.Fatalf("%s shares memory", name)
	}
	return want
}

// agreeCheck asks that Check and Failed say, each time, what the account says,
// and leave alone what they were given.
func agreeCheck(t *testing.T, b book) bool {
	t.Helper()
	given := listOf(b)
	for range 2 {
		if got := audit.Check(given); got != b.check() {
			t.Fatalf("Check of %s is %v", b, got)
		}
		if got := audit.Failed(given); got != b.failed() {
			t.Fatalf("Failed of %s is %d, not %d", b, got, b.failed())
		}
	}
	untouched(t, "Check, Failed", given, b)
	return b.check()
}

// agreeLine asks that Line says, each time, what the account says, and that Parse
// says the record of it.
func agreeLine(t *testing.T, n note) string {
	t.Helper()
	want := n.line()
	for range 2 {
		if got := audit.Line(n.record()); got != want {
			t.Fatalf("Line of %.300q is %.300q, not %.300q", n.call, got, want)
		}
		if r, ok := audit.Parse(want); !ok || !n.of(r) {
			t.Fatalf("Parse of %.300q is %.300q, %v", want, fmt.Sprint(r), ok)
		}
	}
	return want
}

// agreeText asks that Text says, each time, what the account says, and leaves
// alone what it was given.
func agreeText(t *testing.T, b book) string {
	t.Helper()
	given, want := listOf(b), b.text()
	for range 2 {
		if got := audit.Text(given); got != want {
			t.Fatalf("Text of %s is %.300q, not %.300q", b, got, want)
		}
	}
	untouched(t, "Text", given, b)
	return want
}

// agreeParse asks that Parse says, each time, what the account says.
func agreeParse(t *testing.T, s string) (note, bool) {
	t.Helper()
	want, may := noteOf(s)
	for range 2 {
		if r, ok := audit.Parse(s); ok != may || !want.of(r) {
			t.Fatalf("Parse of %.300q is %.300q, %v, not %.300q, %v", s, fmt.Sprint(r), ok, fmt.Sprint(want), may)
		}
	}
	if may && audit.Line(want.record()) != s {
		t.Fatalf("Parse of %.300q is %.300q, which has another line", s, fmt.Sprint(want))
	}
	return want, may
}

// agreeRead asks that Read says, each time, what the account says, and answers
// memory of its own.
func agreeRead(t *testing.T, s string) (book, bool) {
	t.Helper()
	want, may := bookOf(s)
	got, ok := audit.Read(s)
	again, is := audit.Read(s)
	if ok != may || is != may || !notesOf(got).same(want) || !notesOf(again).same(want) {
		t.Fatalf("Read of %.300q is %s, %v, another time %s, %v, not %s, %v", s, notesOf(got), ok, notesOf(again), is, want, may)
	}
	if overlap(got, again) {
		t.Fatalf("Read of %.300q shares memory", s)
	}
	return want, may
}

// changed calls what it is given with each text that is another one with a byte
// changed, left out or put in.
func changed(s string, call func(string)) {
	for i := range len(s) + 1 {
		for c := range 256 {
			call(s[:i] + string([]byte{byte(c)}) + s[i:])
		}
		if i == len(s) {
			break
		}
		call(s[:i] + s[i+1:])
		for c := range 256 {
			if byte(c) != s[i] {
				call(s[:i] + string([]byte{byte(c)}) + s[i+1:])
			}
		}
	}
}

func oneOf[E any](r *rand.Rand, list []E) E { return list[r.Intn(len(list))] }

// drawnCall is one at an edge, or any bytes, of few kinds for the most part.
func drawnCall(r *rand.Rand) string {
	if r.Intn(3) == 0 {
		return oneOf(r, oddCalls)
	}
	s := make([]byte, r.Intn(12))
	for i := range s {
		s[i] = byte(r.Intn(256))
		if r.Intn(2) == 0 {
			s[i] = "\"% \n\x1f\x7e\x7f\xffa02f"[r.Intn(12)]
		}
	}
	return string(s)
}

func drawnTick(r *rand.Rand) uint32 {
	if r.Intn(3) == 0 {
		return oneOf(r, oddTicks)
	}
	return r.Uint32() >> r.Intn(32)
}

func drawnCode(r *rand.Rand) int {
	switch r.Intn(4) {
	case 0:
		return oneOf(r, oddCodes)
	case 1:
		return int(r.Uint64()) >> r.Intn(64)
	case 2:
		return 160 + r.Intn(5)
	}
	return 0
}

// drawnNote is any record.
func drawnNote(r *rand.Rand) note {
	n := note{r.Uint64() >> r.Intn(64), drawnTick(r), drawnCall(r), drawnCode(r)}
	if r.Intn(3) == 0 {
		n.number = oneOf(r, oddNumbers)
	}
	return n
}

// drawnBook is up to as many records, an audit, one with a record changed, or any.
func drawnBook(r *rand.Rand, n int) book {
	var b book
	kind := r.Intn(3)
	tick := drawnTick(r)
	for i := range r.Intn(n + 1) {
		if kind == 0 {
			b = append(b, drawnNote(r))
			continue
		}
		tick += (mostTick - tick) >> r.Intn(33)
		b = append(b, note{uint64(i + 1), tick, drawnCall(r), drawnCode(r)})
	}
	if kind == 1 && len(b) > 0 {
		x := &b[r.Intn(len(b))]
		switch r.Intn(3) {
		case 0:
			x.number += uint64(r.Intn(3)) - 1
		case 1:
			x.tick += uint32(r.Intn(5)) - 2
		default:
			x.number, x.tick = uint64(r.Intn(n)), drawnTick(r)
		}
	}
	return b
}

// ends asks that a call ends, without a panic.
func ends(t *testing.T, name string, call func()) {
	t.Helper()
	done := make(chan any)
	go func() {
		defer func() { done <- recover() }()
		call()
	}()
	select {
	case what := <-done:
		if what != nil {
			t.Fatalf("%s: a panic: %v", name, what)
		}
	case <-time.After(time.Minute):
		t.Fatalf("%s does not end", name)
	}
}
