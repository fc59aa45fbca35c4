package audit_test

import (
	"fmt"
	"math/rand"
	"strings"
	"testing"

	"congress/audit"
)

// The chapter's examples.
func TestExamples(t *testing.T) {
	for _, x := range []struct {
		given note
		want  string
	}{
		{note{1, 7, "open", 0}, "1 7 0 \"open\"\n"},
		{note{2, 9, "a\"b", -3}, "2 9 -3 \"a%22b\"\n"},
	} {
		if got := agreeLine(t, x.given); got != x.want {
			t.Errorf("Line of %+v is %q", x.given, got)
		}
		if n, ok := agreeParse(t, x.want); !ok || n != x.given {
			t.Errorf("Parse of %q is %+v, %v", x.want, n, ok)
		}
	}
}

// P20.2: the fields in digits, each with a blank behind it, at their edges.
func TestNumbersInLines(t *testing.T) {
	for _, x := range []struct {
		given note
		want  string
	}{
		{note{}, `0 0 0 ""`},
		{note{9, 10, "", 0}, `9 10 0 ""`},
		{note{10, 9, "", 1}, `10 9 1 ""`},
		{note{most, 0, "", -1}, `18446744073709551615 0 -1 ""`},
		{note{1 << 63, mostTick, "", 10}, `9223372036854775808 4294967295 10 ""`},
		{note{0, 1 << 31, "", leastInt}, `0 2147483648 -9223372036854775808 ""`},
		{note{1 << 32, 1, "", mostInt}, `4294967296 1 9223372036854775807 ""`},
	} {
		if got := agreeLine(t, x.given); got != x.want+"\n" {
			t.Errorf("Line of %+v is %q, not %q", x.given, got, x.want+"\n")
		}
	}
	for _, number := range oddNumbers {
		for _, tick := range oddTicks {
			for _, code := range oddCodes {
				agreeLine(t, note{number, tick, "c", code})
			}
		}
	}
}

// P20.2: how the call's bytes stand, each of the 256.
func TestCallsInLines(t *testing.T) {
	for call, want := range map[string]string{
		"":                "",
		"open":            "open",
		"\"":              "%22",
		"%":               "%25",
		" ":               " ",
		"!":               "!",
		"#$&'":            "#$&'",
		"\x1f":            "%1f",
		"\x7e":            "~",
		"\x7f":            "%7f",
		"\x80":            "%80",
		"\xff":            "%ff",
		"\x00":            "%00",
		"\n":              "%0a",
		"\xab\xcd\xef":    "%ab%cd%ef",
		"\\":              "\\",
		"%22":             "%2522",
		"send 9 0 =\"\n":  "send 9 0 =%22%0a",
		"  two  blanks  ": "  two  blanks  ",
	} {
		if got := agreeLine(t, note{3, 4, call, 5}); got != "3 4 5 \""+want+"\"\n" {
			t.Errorf("Line of %q is %q", call, got)
		}
	}
	plain := 0
	for c := range 256 {
		one := string([]byte{byte(c)})
		for _, call := range []string{one, one + one, "a" + one, one + "a", one + "22", "%" + one, one + "\"", one + "\n"} {
			agreeLine(t, note{1, 7, call, 0})
		}
		if s := audit.Line(note{1, 7, one, 0}.record()); len(s) == len("1 7 0 \"x\"\n") {
			plain++
		} else if s != fmt.Sprintf("1 7 0 \"%%%02x\"\n", c) {
			t.Errorf("the byte %d stands as %q", c, s)
		}
	}
	// 32 to 126, without two of them.
	if plain != 93 {
		t.Errorf("%d bytes stand by themselves", plain)
	}
	for _, call := range oddCalls {
		for _, other := range oddCalls {
			agreeLine(t, note{1, 7, call + other, 0})
		}
	}
}

// long are calls of n bytes.
func long(n int) []string {
	var all strings.Builder
	for i := range n {
		all.WriteByte(byte(i * 7))
	}
	return []string{strings.Repeat("a", n), strings.Repeat("\"", n), strings.Repeat("%", n), strings.Repeat("\x00", n), strings.Repeat(" ", n), strings.Repeat("\n", n), all.String()}
}

// P20.2: long calls.
func TestLongCalls(t *testing.T) {
	for _, n := range []int{15, 16, 17, 255, 256, 4096, 1<<16 - 1, 1 << 16, 100003} {
		for _, call := range long(n) {
			s := agreeLine(t, note{1, 7, call, 0})
			if got, ok := agreeRead(t, s); !ok || len(got) != 1 || got[0].call != call {
				t.Fatalf("a call of %d bytes is read as %s, %v", n, got, ok)
			}
			if _, ok := agreeParse(t, s[:len(s)-2]+"%\"\n"); ok {
				t.Fatalf("a call of %d bytes, and a %% behind it, is read", n)
			}
		}
	}
}

// P20.2: the text of nothing, of one record, of many, of any records.
func TestText(t *testing.T) {
	for _, x := range []struct {
		given book
		want  string
	}{
		{nil, ""},
		{book{{1, 7, "open", 0}}, "1 7 0 \"open\"\n"},
		{book{{}}, "0 0 0 \"\"\n"},
		{book{{1, 7, "open", 0}, {2, 7, "a\"b%\x00", 160}}, "1 7 0 \"open\"\n2 7 160 \"a%22b%25%00\"\n"},
		{book{{5, 9, "x", 0}, {5, 3, "\n", -1}, {0, 0, "", 1}}, "5 9 0 \"x\"\n5 3 -1 \"%0a\"\n0 0 1 \"\"\n"},
	} {
		if got := agreeText(t, x.given); got != x.want {
			t.Errorf("Text of %s is %q, not %q", x.given, got, x.want)
		}
	}
	for seed := range int64(2000) {
		r := rand.New(rand.NewSource(2020 + seed))
		b := drawnBook(r, 8)
		s := agreeText(t, b)
		var lines string
		for _, n := range b {
			lines += audit.Line(n.record())
		}
		if s != lines {
			t.Fatalf("Text of %s is %q, and the lines are %q", b, s, lines)
		}
		if got, ok := agreeRead(t, s); ok != b.check() || ok && !got.same(b) {
			t.Fatalf("%s is read again as %s, %v", b, got, ok)
		}
	}
}
