package parse_test

import (
	"math/rand"
	"strings"
	"testing"

	"congress/api"
	"congress/parse"
)

// P21.2: drawn calls: one that may be is parsed from its print as it was, unlike
// ones have unlike prints, and what may not be prints nothing.
func TestDrawnCalls(t *testing.T) {
	came := map[int]int{}
	of := map[string]ask{}
	for seed := range int64(40000) {
		r := rand.New(rand.NewSource(2120 + seed))
		a := drawnAsk(r)
		s, ok := agreeCall(t, a)
		if !ok {
			came[-1]++
			continue
		}
		came[a.do]++
		if other, stands := of[s]; stands && other != a {
			t.Fatalf("%s and %s are both printed as %q", a, other, s)
		}
		of[s] = a
	}
	if len(came) != 8 || len(of) < 5000 {
		t.Fatalf("too few of a kind came: %v, %d unlike ones", came, len(of))
	}
	for do, n := range came {
		if n < 1000 {
			t.Errorf("of kind %d only %d came", do, n)
		}
	}
}

// unlike are calls that differ from one in one field.
func unlike(r *rand.Rand, a ask) []ask {
	var l []ask
	for i := range 7 {
		b := a
		switch i {
		case 0:
			b.do = r.Intn(7)
		case 1:
			b.handle ^= 1 << r.Intn(64)
		case 2:
			b.other ^= 1 << r.Intn(64)
		case 3:
			b.give = r.Intn(8)
		case 4:
			b.group = r.Intn(8)
		case 5:
			b.service = r.Intn(4)
		default:
			b.text = drawnText(r)
		}
		if b != a {
			l = append(l, b)
		}
	}
	return l
}

// P21.2: calls that differ in one field have unlike prints, if they may be.
func TestUnlikeCalls(t *testing.T) {
	pairs := 0
	for seed := range int64(10000) {
		r := rand.New(rand.NewSource(2130 + seed))
		a := drawnAsk(r)
		if !a.may() {
			continue
		}
		s := parse.Print(a.call())
		for _, b := range unlike(r, a) {
			other, ok := agreeCall(t, b)
			if ok && other == s {
				t.Fatalf("%s and %s are both printed as %q", a, b, s)
			}
			if ok {
				pairs++
			}
		}
	}
	if pairs < 5000 {
		t.Fatalf("only %d pairs came", pairs)
	}
}

// spoil is a text with some of its bytes changed, left out, put in or doubled.
func spoil(r *rand.Rand, s string) string {
	const kinds = "0123456789 =-+openclsmitrvkjaf\x00\n\xff"
	for range 1 + r.Intn(2) {
		i := r.Intn(len(s) + 1)
		j := min(len(s), i+r.Intn(3))
		switch r.Intn(6) {
		case 0:
			s = s[:i] + s[j:]
		case 1:
			s = s[:j] + s[i:]
		case 2:
			s = s[:i] + string([]byte{byte(r.Intn(256))}) + s[j:]
		case 3:
			s = s[:i] + kinds[r.Intn(len(kinds)):][:1] + s[j:]
		case 4:
			s = s[:i] + kinds[r.Intn(len(kinds)):][:1] + s[i:]
		default:
			s = s[:i]
		}
	}
	return s
}

// drawnWords are words of requests, in any order, with any number of blanks.
func drawnWords(r *rand.Rand) string {
	words := []string{"open", "close", "mint", "revoke", "join", "leave", "send", "fifo", "causal", "agreed", "safe", "0", "1", "7", "8", "9", "10", "09", "=", "=x", "=hi there", "", "18446744073709551615", "18446744073709551616"}
	var b strings.Builder
	b.WriteString(words[r.Intn(7)])
	for range r.Intn(5) {
		if b.WriteByte(' '); r.Intn(20) == 0 {
			b.WriteByte(' ')
		}
		b.WriteString(oneOf(r, words))
	}
	return b.String()
}

// P21.2: drawn bytes, requests with bytes changed, and drawn words: Parse tells a
// call, which may be and is printed as it stood, or ErrParse.
func TestDrawnBytes(t *testing.T) {
	came := map[bool]int{}
	of := map[ask]string{}
	for seed := range int64(60000) {
		r := rand.New(rand.NewSource(2140 + seed))
		var s string
		switch r.Intn(4) {
		case 0:
			bytes := make([]byte, r.Intn(30))
			r.Read(bytes)
			s = string(bytes)
		case 1:
			s = drawnWords(r)
		default:
			s = spoil(r, drawnAsk(r).print())
		}
		a, ok := agreeParse(t, s)
		came[ok]++
		if !ok {
			continue
		}
		if other, stands := of[a]; stands && other != s {
			t.Fatalf("%q and %q are both parsed as %s", s, other, a)
		}
		of[a] = s
	}
	if came[true] < 4000 || came[false] < 10000 {
		t.Fatalf("too few of a kind came: %v", came)
	}
}

// P21.2, R3: what is asked does not hang on what was asked ahead, also where
// several ask at one time.
func TestParseAtOneTime(t *testing.T) {
	done := make(chan string)
	const many = 8
	for i := range many {
		go func() {
			r := rand.New(rand.NewSource(2150 + int64(i)))
			for range 3000 {
				a := drawnAsk(r)
				s := a.print()
				if c, code := parse.Parse(s); (code == api.OK) != a.may() || a.may() && askOf(c) != a {
					done <- "Parse of " + s
					return
				}
				if parse.Print(a.call()) != s {
					done <- "Print of " + a.String()
					return
				}
			}
			done <- ""
		}()
	}
	for range many {
		if wrong := <-done; wrong != "" {
			t.Error(wrong)
		}
	}
}
