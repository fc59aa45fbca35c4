package audit_test

import (
	"fmt"
	"math/rand"
	"strings"
	"testing"

	"congress/audit"
)

// P20.2: lines of records, of any numbers, ticks and codes.
func TestParse(t *testing.T) {
	for s, want := range map[string]note{
		"1 7 0 \"open\"\n": {1, 7, "open", 0},
		"9 0 -5 \"\"\n":    {9, 0, "", -5},
		"0 0 0 \"\"\n":     {0, 0, "", 0},
		"10 9 10 \" \"\n":  {10, 9, " ", 10},
		"18446744073709551615 4294967295 9223372036854775807 \"\"\n": {most, mostTick, "", mostInt},
		"18446744073709551615 0 -9223372036854775808 \"~\"\n":        {most, 0, "~", leastInt},
		"1 7 0 \"%22%25%00%0a%1f%7f%ff\"\n":                          {1, 7, "\"%\x00\n\x1f\x7f\xff", 0},
		"1 7 0 \"1 7 0 %22%22\"\n":                                   {1, 7, "1 7 0 \"\"", 0},
		"1 7 0 \"  \"\n":                                             {1, 7, "  ", 0},
		"1 7 0 \"%25f\"\n":                                           {1, 7, "%f", 0},
		"1 7 -1 \"\\n\"\n":                                           {1, 7, "\\n", -1},
	} {
		if n, ok := agreeParse(t, s); !ok || n != want {
			t.Errorf("Parse of %q is %+v, %v", s, n, ok)
		}
	}
}

// noLines are texts that are no record's line.
var noLines = []string{
	"", "\n", " ", "\"", "\"\n", "\"\"\n", "1", "1\n", "1 7", "1 7 0", "1 7 0\n", "1 7 0 ", "1 7 0 \n", "   \"\"\n", "1 7 0 \"", "1 7 0 \"\n",
	// without its end, two lines, something behind the end
	`1 7 0 "open"`, `1 7 0 "open`, "1 7 0 \"open\"\n1 7 0 \"open\"\n", "1 7 0 \"open\"\n2 7 0 \"open\"\n", "1 7 0 \"open\"\n\n", "\n1 7 0 \"open\"\n",
	"1 7 0 \"open\"\n ", "1 7 0 \"open\"\n\x00", "1 7 0 \"open\" \n", "1 7 0 \"open\"x\n", "1 7 0 \"open\"\r\n", "1 7 0 \"open\"\r", "1 7 0 \"open\"\x00",
	// digits
	"01 7 0 \"\"\n", "1 07 0 \"\"\n", "1 7 00 \"\"\n", "1 7 01 \"\"\n", "00 7 0 \"\"\n", "1 00 0 \"\"\n", "1 7 -01 \"\"\n", "1 7 0-1 \"\"\n",
	"+1 7 0 \"\"\n", "1 +7 0 \"\"\n", "1 7 +0 \"\"\n", "1 7 +1 \"\"\n", "1 7 -0 \"\"\n", "1 7 -00 \"\"\n", "1 7 --1 \"\"\n", "1 7 - \"\"\n", "-0 7 0 \"\"\n", "1 -0 0 \"\"\n", "-1 7 0 \"\"\n", "1 -7 0 \"\"\n",
	"1_0 7 0 \"\"\n", "1 1_0 0 \"\"\n", "1 7 1_0 \"\"\n", "0x1 7 0 \"\"\n", "1 0x7 0 \"\"\n", "1 7 0x1 \"\"\n", "0b1 7 0 \"\"\n", "a 7 0 \"\"\n", "1 f 0 \"\"\n", "1 7 e \"\"\n", "1e1 7 0 \"\"\n", "1.0 7 0 \"\"\n", "1 7 1.5 \"\"\n",
	"\u0661 7 0 \"\"\n", "\uff11 7 0 \"\"\n",
	// numbers greater than the type holds
	"18446744073709551616 7 0 \"\"\n", "99999999999999999999 7 0 \"\"\n", "36893488147419103233 7 0 \"\"\n", "1 4294967296 0 \"\"\n", "1 9999999999 0 \"\"\n", "1 18446744073709551616 0 \"\"\n", "1 18446744073709551623 0 \"\"\n",
	"1 7 9223372036854775808 \"\"\n", "1 7 -9223372036854775809 \"\"\n", "1 7 18446744073709551616 \"\"\n", "1 7 18446744073709551615 \"\"\n", "1 7 -18446744073709551616 \"\"\n",
	// blanks
	"1  7 0 \"\"\n", "1 7  0 \"\"\n", "1 7 0  \"\"\n", " 1 7 0 \"\"\n", "17 0 \"\"\n", "1 70 \"\"\n", "1 7 0\"\"\n", "1\t7 0 \"\"\n", "1 7\n0 \"\"\n", "1 7 0\u00a0\"\"\n",
	" 7 0 \"\"\n", "1  0 \"\"\n", "1 7  \"\"\n", "1 7 \"\"\n", "1 \"\"\n", "1 7 0 0 \"\"\n",
	// quotation marks
	"1 7 0 open\n", "1 7 0 \"open\n", "1 7 0 open\"\n", "1 7 0 \"\"open\"\n", "1 7 0 \"open\"\"\n", "1 7 0 \"\"\"\n", "1 7 0 \"a\"b\"\n", "1 7 0 'open'\n", "1 7 0 \"a\\\"b\"\n", "1 7 0 \"a\" \"b\"\n",
	// what stands behind a %
	"1 7 0 \"%\"\n", "1 7 0 \"%2\"\n", "1 7 0 \"a%2\"\n", "1 7 0 \"%0\"\n", "1 7 0 \"%%\"\n", "1 7 0 \"%%25\"\n", "1 7 0 \"%25%\"\n", "1 7 0 \"%2 \"\n", "1 7 0 \"% 2\"\n", "1 7 0 \"%2G\"\n", "1 7 0 \"%g2\"\n", "1 7 0 \"%+1\"\n", "1 7 0 \"%-1\"\n", "1 7 0 \"%_1\"\n", "1 7 0 \"%0x\"\n", "1 7 0 \"%x0\"\n",
	"1 7 0 \"%0A\"\n", "1 7 0 \"%1F\"\n", "1 7 0 \"%7F\"\n", "1 7 0 \"%FF\"\n", "1 7 0 \"%fF\"\n", "1 7 0 \"%Ff\"\n", "1 7 0 \"%A0\"\n",
	"1 7 0 \"%20\"\n", "1 7 0 \"%21\"\n", "1 7 0 \"%23\"\n", "1 7 0 \"%24\"\n", "1 7 0 \"%26\"\n", "1 7 0 \"%30\"\n", "1 7 0 \"%41\"\n", "1 7 0 \"%61\"\n", "1 7 0 \"%7e\"\n",
	// bytes that may not stand by themselves
	"1 7 0 \"\x00\"\n", "1 7 0 \"\n\"\n", "1 7 0 \"a\nb\"\n", "1 7 0 \"\t\"\n", "1 7 0 \"\x1f\"\n", "1 7 0 \"\x7f\"\n", "1 7 0 \"\x80\"\n", "1 7 0 \"\xff\"\n", "1 7 0 \"é\"\n",
}

// P20.2: a text that is no record's line is the zero record and false.
func TestNoLine(t *testing.T) {
	for _, s := range noLines {
		if n, ok := agreeParse(t, s); ok || n != (note{}) {
			t.Errorf("Parse of %q is %+v, %v", s, n, ok)
		}
	}
}

// P20.2: of each byte there is one way in which it stands in a call.
func TestWaysOfBytes(t *testing.T) {
	for c := range 256 {
		one := string([]byte{byte(c)})
		read := map[string]int{}
		for _, form := range []string{"%c", "%%%02x", "%%%02X", "%%%x", "%%%X", "%%%03x", "%%%02d", "%%%o", "\\x%02x", "&#%d;"} {
			way := fmt.Sprintf(form, c)
			if form == "%c" {
				way = one
			}
			if n, ok := agreeParse(t, "1 7 0 \""+way+"\"\n"); ok && n.call == one {
				read[way]++
			}
			agreeParse(t, "1 7 0 \"a"+way+"b\"\n")
		}
		if len(read) != 1 {
			t.Errorf("the byte %d is read of %v", c, read)
		}
	}
	for a := range 256 {
		for b := range 256 {
			agreeParse(t, "1 7 0 \"%"+string([]byte{byte(a), byte(b)})+"\"\n")
		}
	}
}

// P20.2: each line with one byte changed, left out or put in.
func TestChangedLines(t *testing.T) {
	came := map[bool]int{}
	for _, s := range []string{
		"1 7 0 \"open\"\n", "1 7 0 \"\"\n", "10 9 -10 \"a%22b%25%0a\"\n", "0 0 0 \" \"\n",
		"18446744073709551615 4294967295 9223372036854775807 \"%ff\"\n", "18446744073709551610 4294967290 -9223372036854775808 \"~ !\"\n",
	} {
		if _, ok := agreeParse(t, s); !ok {
			t.Fatalf("%q is no line", s)
		}
		changed(s, func(other string) {
			_, ok := agreeParse(t, other)
			came[ok]++
		})
	}
	if came[true] < 1000 || came[false] < 1000 {
		t.Fatalf("too few of a kind came: %v", came)
	}
}

// P20.2: texts of audits.
func TestRead(t *testing.T) {
	for s, want := range map[string]book{
		"":                      nil,
		"1 7 0 \"open\"\n":      {{1, 7, "open", 0}},
		"1 0 -1 \"\"\n":         {{1, 0, "", -1}},
		"1 7 0 \"a%0ab\"\n":     {{1, 7, "a\nb", 0}},
		"1 4294967295 0 \"\"\n": {{1, mostTick, "", 0}},
		"1 7 0 \"open\"\n2 7 160 \"a%22b%25%00\"\n":                {{1, 7, "open", 0}, {2, 7, "a\"b%\x00", 160}},
		"1 0 0 \"\"\n2 4294967295 1 \" \"\n3 4294967295 0 \"c\"\n": {{1, 0, "", 0}, {2, mostTick, " ", 1}, {3, mostTick, "c", 0}},
	} {
		if b, ok := agreeRead(t, s); !ok || !b.same(want) {
			t.Errorf("Read of %q is %s, %v", s, b, ok)
		}
	}
}

// P20.2: texts of lists that are no audit, a last line without its end, an empty
// line, and lines that are none.
func TestNoAudit(t *testing.T) {
	const first, second, third = "1 7 0 \"open\"\n", "2 7 1 \"join\"\n", "3 9 0 \"\"\n"
	for _, s := range []string{
		"0 7 0 \"\"\n", "2 7 0 \"\"\n", "18446744073709551615 7 0 \"\"\n",
		first + first, second, second + first, first + third, first + second + second, third + second + first, first + third + second,
		first + "2 6 0 \"\"\n", first + "2 0 0 \"\"\n", first + second + "3 6 0 \"\"\n", "1 4294967295 0 \"\"\n2 0 0 \"\"\n", "1 1 0 \"\"\n2 0 0 \"\"\n3 5 0 \"\"\n",
		"\n", "\n\n", "\n" + first, first + "\n", first + "\n" + second, first + second + "\n", first + second + "\n\n",
		strings.TrimSuffix(first, "\n"), first + strings.TrimSuffix(second, "\n"), first + strings.TrimSuffix(second, "\"\n"), first + "2", first + " ", first + "\x00", first + "\r\n" + second,
		strings.ReplaceAll(first+second, "\n", "\r\n"), strings.ReplaceAll(first+second, "\n", "\r"), strings.ReplaceAll(first+second, "\n", " "), strings.ReplaceAll(first+second, "\n", ""), strings.ReplaceAll(first+second, "\n", "\n\n"),
		first + "2 07 1 \"join\"\n", "1 7 0 \"o\npen\"\n" + second, first + "2 7 1 \"%41\"\n" + third, first + "2 7 1 \"\x80\"\n" + third,
	} {
		if b, ok := agreeRead(t, s); ok || b != nil {
			t.Errorf("Read of %q is %s, %v", s, b, ok)
		}
	}
	for _, s := range noLines {
		if s == "" || strings.Count(s, "\n") > 1 {
			continue
		}
		for _, other := range []string{s, first + s, s + first, first + s + second} {
			if b, ok := agreeRead(t, other); ok || b != nil {
				t.Errorf("Read of %q is %s, %v", other, b, ok)
			}
		}
	}
}

// P20.2: a text of two and of three lines with one byte changed, left out or put
// in, and each beginning and end of it.
func TestChangedTexts(t *testing.T) {
	came := map[bool]int{}
	for _, s := range []string{"1 7 0 \"a\"\n2 8 -1 \"%22\"\n", "1 7 0 \"\"\n2 7 0 \"b \"\n3 10 160 \"%0a\"\n"} {
		changed(s, func(other string) {
			_, ok := agreeRead(t, other)
			came[ok]++
		})
		for i := range len(s) + 1 {
			_, ok := agreeRead(t, s[:i])
			if want := i == 0 || s[i-1] == '\n'; ok != want {
				t.Errorf("Read of %q is %v", s[:i], ok)
			}
			if _, ok := agreeRead(t, s[i:]); ok != (i == 0 || i == len(s)) {
				t.Errorf("Read of %q is %v", s[i:], ok)
			}
		}
	}
	if came[true] < 300 || came[false] < 300 {
		t.Fatalf("too few of a kind came: %v", came)
	}
}

// P20.2: the text of many records, whole, and with a byte changed.
func TestManyLines(t *testing.T) {
	const many = 5000
	r := rand.New(rand.NewSource(2027))
	var b book
	for i := range many {
		b = append(b, note{uint64(i + 1), uint32(i / 3), drawnCall(r), drawnCode(r)})
	}
	s := agreeText(t, b)
	if got, ok := agreeRead(t, s); !ok || !got.same(b) {
		t.Fatalf("many records are read as %s, %v", got, ok)
	}
	for range 20 {
		i := r.Intn(len(s))
		agreeRead(t, s[:i]+string([]byte{s[i] ^ 1<<r.Intn(8)})+s[i+1:])
		agreeRead(t, s[:i])
	}
}

// P20.2, P1: each call ends, without a panic, at any bytes.
func TestReadEnds(t *testing.T) {
	const n = 1 << 20
	for _, s := range []string{"%", "%2", "%25", "\"", " ", "\n", "0", "9", "-", "\x00", "\xff", "1 ", "1 7 0 \"\"\n", "1 7 0 \"%0a\"\n"} {
		all := strings.Repeat(s, n/len(s))
		for _, text := range []string{all, "1 7 0 \"" + all, "1 7 0 \"" + all + "\"\n", all + " 7 0 \"\"\n", "1 " + all + " 0 \"\"\n", "1 7 " + all + " \"\"\n", "1 7 -" + all + " \"\"\n", "1 7 0 \"\"\n" + all, all + "\n"} {
			ends(t, fmt.Sprintf("Read of %.30q, %d bytes", text, len(text)), func() {
				l, _ := audit.Read(text)
				if len(l) > 0 && audit.Text(l) != text {
					t.Errorf("%.30q, of %d bytes, is written otherwise", text, len(text))
				}
				if r, ok := audit.Parse(text); ok && audit.Line(r) != text {
					t.Errorf("%.30q, of %d bytes, is written otherwise", text, len(text))
				}
			})
		}
	}
}
