package parse_test

import (
	"fmt"
	"math"
	"math/big"
	"math/rand"
	"regexp"
	"strings"
	"testing"
	"time"

	"congress/api"
	"congress/parse"
)

const (
	leastInt = math.MinInt
	mostInt  = math.MaxInt
	most     = math.MaxUint64
)

// The kinds of calls, by the numbers that the document tells.
const (
	open = iota
	closes
	mint
	revoke
	join
	leave
	send
)

var oddHandles = []uint64{0, 1, 2, 9, 10, 11, 99, 100, 1<<32 - 1, 1 << 32, 1<<63 - 1, 1 << 63, 1<<64 - 10, most - 1, most}

var oddKinds = []int{0, 1, 2, 3, 4, 5, 6, 7, 8, -1, -7, 1 << 8, 1<<8 + 6, 1 << 32, 1<<32 + 6, leastInt, leastInt + 6, mostInt - 1, mostInt}

// oddFields are rights, groups and services, and what is none of them.
var oddFields = []int{0, 1, 2, 3, 4, 6, 7, 8, 9, 10, 17, -1, -2, -7, -8, 256, 257, 1 << 32, 1<<32 + 1, leastInt, leastInt + 1, mostInt - 1, mostInt}

// oddTexts are texts at the edges that the document names, and some that look
// like parts of a request.
var oddTexts = []string{
	"", "h", "hi there", " ", "  ", " h", "h ", "=", "==", "=hi", " =", "open", " open", "join 9 1", "0", "\x00", "\n", "\r\n", "\t", "\xff", "\xc3", "é", "\u2028", "%20", `"`,
	"123456789012345", "1234567890123456", "12345678901234567", "                ", "                 ", "================", "=================",
	"éééééééé", "ééééééééé", "\x00\x01\x02\x03\x04\x05\x06\x07\x08\x09\x0a\x0b\x0c\x0d\x0e\x0f", "\xff\xff\xff\xff\xff\xff\xff\xff\xff\xff\xff\xff\xff\xff\xff\xff\xff",
}

// ask is what a client asks for, told without the program's packages.
type ask struct {
	do                   int
	handle, other        uint64
	give, group, service int
	text                 string
}

func (a ask) String() string {
	return fmt.Sprintf("%d: %d %d, give %d, group %d, service %d, %.40q", a.do, a.handle, a.other, a.give, a.group, a.service, a.text)
}

// call is the program's form of an ask.
func (a ask) call() api.Call {
	return api.Call{Do: a.do, Handle: a.handle, Other: a.other, Give: a.give, Group: a.group, Service: a.service, Text: a.text}
}

// askOf is the account's form of a call.
func askOf(c api.Call) ask {
	return ask{c.Do, c.Handle, c.Other, c.Give, c.Group, c.Service, c.Text}
}

// may is the account of May.
func (a ask) may() bool {
	group := a.group >= 0 && a.group <= 7
	switch a.do {
	case open:
		return a == ask{do: open}
	case closes:
		return a == ask{do: closes, handle: a.handle}
	case mint:
		return a == ask{do: mint, handle: a.handle, give: a.give} && a.give > 0 && a.give < 8
	case revoke:
		return a == ask{do: revoke, handle: a.handle, other: a.other}
	case join, leave:
		return a == ask{do: a.do, handle: a.handle, group: a.group} && group
	case send:
		return a.other == 0 && a.give == 0 && group && a.service >= 0 && a.service <= 3 && len(a.text) <= 16
	}
	return false
}

var serviceNames = []string{"fifo", "causal", "agreed", "safe"}

// print is the account of Print.
func (a ask) print() string {
	if !a.may() {
		return ""
	}
	switch a.do {
	case open:
		return "open"
	case closes:
		return fmt.Sprintf("close %d", a.handle)
	case mint:
		return fmt.Sprintf("mint %d %d", a.handle, a.give)
	case revoke:
		return fmt.Sprintf("revoke %d %d", a.handle, a.other)
	case join:
		return fmt.Sprintf("join %d %d", a.handle, a.group)
	case leave:
		return fmt.Sprintf("leave %d %d", a.handle, a.group)
	}
	return fmt.Sprintf("send %d %d %s =%s", a.handle, a.group, serviceNames[a.service], a.text)
}

// forms are what requests look like; whether a handle is too great, and a text
// too long, is asked beside them.
var forms = []*regexp.Regexp{
	open:   regexp.MustCompile(`\Aopen\z`),
	closes: regexp.MustCompile(`\Aclose (0|[1-9][0-9]*)\z`),
	mint:   regexp.MustCompile(`\Amint (0|[1-9][0-9]*) ([1-7])\z`),
	revoke: regexp.MustCompile(`\Arevoke (0|[1-9][0-9]*) (0|[1-9][0-9]*)\z`),
	join:   regexp.MustCompile(`\Ajoin (0|[1-9][0-9]*) ([0-7])\z`),
	leave:  regexp.MustCompile(`\Aleave (0|[1-9][0-9]*) ([0-7])\z`),
	send:   regexp.MustCompile(`\Asend (0|[1-9][0-9]*) ([0-7]) (fifo|causal|agreed|safe) =((?s:.*))\z`),
}

// handleOf tells the number that digits are, where it is no greater than a handle
// may be.
func handleOf(digits string) (uint64, bool) {
	n, ok := new(big.Int).SetString(digits, 10)
	if !ok || n.BitLen() > 64 {
		return 0, false
	}
	return n.Uint64(), true
}

// parsed is the account of Parse.
func parsed(s string) (ask, bool) {
	for do, form := range forms {
		parts := form.FindStringSubmatch(s)
		if parts == nil {
			continue
		}
		a, ok, is := ask{do: do}, true, true
		if do != open {
			a.handle, ok = handleOf(parts[1])
		}
		switch do {
		case mint:
			a.give = int(parts[2][0] - '0')
		case revoke:
			a.other, is = handleOf(parts[2])
		case join, leave:
			a.group = int(parts[2][0] - '0')
		case send:
			a.group, a.text = int(parts[2][0]-'0'), parts[4]
			is = len(a.text) <= 16
			for serviceNames[a.service] != parts[3] {
				a.service++
			}
		}
		if !ok || !is {
			return ask{}, false
		}
		return a, true
	}
	return ask{}, false
}

// agreeParse asks that Parse says, each time, what the account says, and that
// what is parsed may be and is printed as it stood.
func agreeParse(t *testing.T, s string) (ask, bool) {
	t.Helper()
	want, may := parsed(s)
	code := api.OK
	if !may {
		code = api.ErrParse
	}
	given := strings.Clone(s)
	for range 2 {
		if c, e := parse.Parse(given); e != code || askOf(c) != want {
			t.Fatalf("Parse of %.300q is %s, %d, not %s, %d", s, askOf(c), e, want, code)
		}
	}
	if given != s {
		t.Fatalf("Parse of %.300q made %.300q of it", s, given)
	}
	if may && (!parse.May(want.call()) || parse.Print(want.call()) != s) {
		t.Fatalf("Parse of %.300q is %s, of which May is %v, and Print %q", s, want, parse.May(want.call()), parse.Print(want.call()))
	}
	return want, may
}

// agreeCall asks that May and Print say, each time, what the account says, and
// that a call that may be is parsed from its print as it was.
func agreeCall(t *testing.T, a ask) (string, bool) {
	t.Helper()
	want, may := a.print(), a.may()
	given := a.call()
	for range 2 {
		if got := parse.May(given); got != may {
			t.Fatalf("May of %s is %v", a, got)
		}
		if got := parse.Print(given); got != want {
			t.Fatalf("Print of %s is %q, not %q", a, got, want)
		}
	}
	if askOf(given) != a {
		t.Fatalf("May and Print of %s made %s of it", a, askOf(given))
	}
	if c, code := parse.Parse(want); may && (code != api.OK || askOf(c) != a) {
		t.Fatalf("%s is printed as %q, and parsed as %s, %d", a, want, askOf(c), code)
	}
	return want, may
}

// changed calls what it is given with each text that is another one with a byte
// changed, left out or put in.
func changed(s string, call func(string)) {
	for i := range len(s) + 1 {
		for c := range 256 {
			call(s[:i] + string([]byte{byte(c)}) + s[i:])
		}
		if i == len(s) {
			break
		}
		call(s[:i] + s[i+1:])
		for c := range 256 {
			if byte(c) != s[i] {
				call(s[:i] + string([]byte{byte(c)}) + s[i+1:])
			}
		}
	}
}

func oneOf[E any](r *rand.Rand, list []E) E { return list[r.Intn(len(list))] }

func drawnHandle(r *rand.Rand) uint64 {
	if r.Intn(3) == 0 {
		return oneOf(r, oddHandles)
	}
	return r.Uint64() >> r.Intn(64)
}

// drawnText is one at an edge, or up to 18 bytes, of few kinds for the most part.
func drawnText(r *rand.Rand) string {
	if r.Intn(3) == 0 {
		return oneOf(r, oddTexts)
	}
	s := make([]byte, r.Intn(19))
	for i := range s {
		s[i] = byte(r.Intn(256))
		if r.Intn(2) == 0 {
			s[i] = " =\n\x00\xff09a"[r.Intn(8)]
		}
	}
	return string(s)
}

// drawnField is from 0 to the greatest one, for the most part.
func drawnField(r *rand.Rand, greatest int) int {
	if r.Intn(8) == 0 {
		return oneOf(r, oddFields)
	}
	return r.Intn(greatest + 1)
}

// drawnAsk is a call that may be, for the most part, one with a field more, or other.
func drawnAsk(r *rand.Rand) ask {
	other := ask{oneOf(r, oddKinds), drawnHandle(r), drawnHandle(r), drawnField(r, 7), drawnField(r, 7), drawnField(r, 3), drawnText(r)}
	if r.Intn(6) == 0 {
		return other
	}
	a := ask{do: r.Intn(7), handle: other.handle}
	switch a.do {
	case open:
		a.handle = 0
	case mint:
		a.give = other.give
	case revoke:
		a.other = other.other
	case join, leave:
		a.group = other.group
	case send:
		a.group, a.service, a.text = other.group, other.service, other.text
	}
	if r.Intn(6) > 0 {
		return a
	}
	switch r.Intn(7) {
	case 0:
		a.do = other.do
	case 1:
		a.handle = other.handle
	case 2:
		a.other = other.other
	case 3:
		a.give = other.give
	case 4:
		a.group = other.group
	case 5:
		a.service = other.service
	default:
		a.text = other.text
	}
	return a
}

// ends asks that a call ends, without a panic.
func ends(t *testing.T, name string, call func()) {
	t.Helper()
	done := make(chan any)
	go func() {
		defer func() { done <- recover() }()
		call()
	}()
	select {
	case what := <-done:
		if what != nil {
			t.Fatalf("%s: a panic: %v", name, what)
		}
	case <-time.After(time.Minute):
		t.Fatalf("%s does not end", name)
	}
}
