package parse_test

import (
	"fmt"
	"strings"
	"testing"
	"unsafe"

	"congress/api"
	"congress/parse"
)

// requests are some of every kind, each with what it asks for.
var requests = map[string]ask{
	"open":                      {do: open},
	"close 9":                   {do: closes, handle: 9},
	"mint 9 5":                  {do: mint, handle: 9, give: 5},
	"revoke 9 10":               {do: revoke, handle: 9, other: 10},
	"join 9 1":                  {do: join, handle: 9, group: 1},
	"leave 9 1":                 {do: leave, handle: 9, group: 1},
	"send 9 1 safe =hi there":   {do: send, handle: 9, group: 1, service: 3, text: "hi there"},
	"send 10 2 fifo =":          {do: send, handle: 10, group: 2},
	"send 0 0 causal ==":        {do: send, service: 1, text: "="},
	"send 99 7 agreed =x y  z ": {do: send, handle: 99, group: 7, service: 2, text: "x y  z "},
}

// asks that Parse tells a call.
func asks(t *testing.T, s string, want ask) {
	t.Helper()
	if a, ok := agreeParse(t, s); !ok || a != want {
		t.Errorf("Parse of %q is %s, %v", s, a, ok)
	}
}

// refuses asks that Parse tells the zero call and ErrParse.
func refuses(t *testing.T, s string) {
	t.Helper()
	agreeParse(t, s)
	if c, code := parse.Parse(s); code != 210 || c != (api.Call{}) {
		t.Errorf("Parse of %.200q is %s, %d", s, askOf(c), code)
	}
}

// The chapter's examples.
func TestExamples(t *testing.T) {
	asks(t, "send 9 1 safe =hi there", ask{do: send, handle: 9, group: 1, service: 3, text: "hi there"})
	for _, s := range []string{"join 9 8", "join  9 1", "join 09 1", "open "} {
		refuses(t, s)
	}
}

// P21.1: every kind of request.
func TestParse(t *testing.T) {
	came := map[int]bool{}
	for s, want := range requests {
		asks(t, s, want)
		came[want.do] = true
	}
	if len(came) != 7 {
		t.Errorf("kinds that came: %v", came)
	}
}

// P21.1: H of 0, 9, 10, 2^64 - 1 and others, wherever one stands.
func TestHandles(t *testing.T) {
	for _, h := range oddHandles {
		d := fmt.Sprint(h)
		asks(t, "close "+d, ask{do: closes, handle: h})
		asks(t, "mint "+d+" 1", ask{do: mint, handle: h, give: 1})
		asks(t, "revoke "+d+" 3", ask{do: revoke, handle: h, other: 3})
		asks(t, "revoke 3 "+d, ask{do: revoke, handle: 3, other: h})
		asks(t, "join "+d+" 0", ask{do: join, handle: h})
		asks(t, "leave "+d+" 0", ask{do: leave, handle: h})
		asks(t, "send "+d+" 0 fifo =", ask{do: send, handle: h})
	}
}

// noHandles are words that are no H.
var noHandles = []string{
	"", "00", "01", "09", "007", "018446744073709551615", "+0", "+1", "+9", "-0", "-1", "-9", "--1", "-", "+",
	"18446744073709551616", "18446744073709551617", "18446744073709551625", "20000000000000000000", "99999999999999999999", "36893488147419103232", "36893488147419103233", "-18446744073709551615",
	"184467440737095516150", "1" + strings.Repeat("0", 100), strings.Repeat("9", 1000), strings.Repeat("0", 1000), strings.Repeat("0", 1000) + "9",
	"0x9", "0b1", "0o7", "9a", "a", "f", "1_0", "1e1", "1.0", "9.", ".9", "1,000", "9h", "h9", "H", "=9", "9=", "\u0669", "\uff19", "\u00b2", "9\x00", "\x009", "9\n", "\n9", "\t9", "9\r", "\xff", "open", "NaN", "Inf", "nil",
}

// P21.1: an H with a 0, a + or a - ahead, 2^64 and more, very many digits.
func TestNoHandles(t *testing.T) {
	for _, h := range noHandles {
		for _, s := range []string{"close " + h, "mint " + h + " 1", "revoke " + h + " 3", "revoke 3 " + h, "join " + h + " 0", "leave " + h + " 0", "send " + h + " 0 fifo ="} {
			refuses(t, s)
		}
	}
}

// P21.1: R of 1 to 7, G of 0 to 7, and what is none.
func TestDigits(t *testing.T) {
	for n := range 8 {
		d := fmt.Sprint(n)
		asks(t, "join 9 "+d, ask{do: join, handle: 9, group: n})
		asks(t, "leave 9 "+d, ask{do: leave, handle: 9, group: n})
		asks(t, "send 9 "+d+" fifo =", ask{do: send, handle: 9, group: n})
		if n > 0 {
			asks(t, "mint 9 "+d, ask{do: mint, handle: 9, give: n})
		}
	}
	refuses(t, "mint 9 0")
	none := append([]string{"8", "9", "10", "11", "17", "70", "77", "255", "256", "257", "4294967296", "4294967297", "18446744073709551615", "1 ", " 1", "1 1"}, noHandles...)
	for _, d := range none {
		for _, s := range []string{"mint 9 " + d, "join 9 " + d, "leave 9 " + d, "send 9 " + d + " fifo ="} {
			refuses(t, s)
		}
	}
	for c := range 256 {
		one := string([]byte{byte(c)})
		for _, s := range []string{"mint 9 " + one, "join 9 " + one, "leave 9 " + one, "send 9 " + one + " fifo ="} {
			if _, ok := agreeParse(t, s); ok && (c < '0' || c > '7') {
				t.Errorf("%q is a request", s)
			}
		}
	}
}

// P21.1: each service, and words that are none.
func TestServices(t *testing.T) {
	for n, name := range []string{"fifo", "causal", "agreed", "safe"} {
		asks(t, "send 9 1 "+name+" =x", ask{do: send, handle: 9, group: 1, service: n, text: "x"})
		for _, other := range []string{strings.ToUpper(name), strings.ToUpper(name[:1]) + name[1:], name[1:], name[:len(name)-1], name + name[:1], name[:1] + name, name + "s", name + "\x00", "=" + name, name + "="} {
			refuses(t, "send 9 1 "+other+" =x")
		}
	}
	for _, other := range []string{"", "soon", "0", "1", "2", "3", "4", "open", "none", "fifo causal", "fifo,safe", "fifo|safe", "fifosafe", "SvcSafe", "unsafe", "agree", "total", "\x00", "\xff", strings.Repeat("safe", 1000)} {
		refuses(t, "send 9 1 "+other+" =x")
	}
}

// P21.1: a TEXT of no byte, of 1, 15 and 16 bytes, of blanks, of =, of each of
// the 256 bytes, and what is none.
func TestTexts(t *testing.T) {
	for c := range 256 {
		one := string([]byte{byte(c)})
		for _, n := range []int{0, 1, 15, 16} {
			text := strings.Repeat(one, n)
			asks(t, "send 9 1 agreed ="+text, ask{do: send, handle: 9, group: 1, service: 2, text: text})
		}
		for _, n := range []int{17, 18, 32, 256 + 16, 1000} {
			refuses(t, "send 9 1 agreed ="+strings.Repeat(one, n))
		}
		for _, n := range []int{1, 15, 16, 17} {
			if text := strings.Repeat(one, n); c != '=' {
				refuses(t, "send 9 1 agreed "+text)
			}
		}
		asks(t, "send 9 1 safe ="+one+" "+one, ask{do: send, handle: 9, group: 1, service: 3, text: one + " " + one})
	}
	for _, text := range oddTexts {
		if len(text) > 16 {
			refuses(t, "send 9 1 fifo ="+text)
			continue
		}
		asks(t, "send 9 1 fifo ="+text, ask{do: send, handle: 9, group: 1, text: text})
	}
	for _, s := range []string{"send 9 1 fifo", "send 9 1 fifo ", "send 9 1 fifo hi", "send 9 1 fifo  =hi", "send 9 1 fifo hi=", "send 9 1 fifo =hi there, you all", "send 9 1 fifo\n=hi", "send 9 1 fifo=hi", "send 9 1 =hi", "send 9 =hi", "send =hi", "=hi", "open =hi", "open =", "close 9 =", "join 9 1 =hi"} {
		refuses(t, s)
	}
}

// P21.1: nothing, blanks, a word alone, words with a byte more or fewer, in large
// letters.
func TestNoRequests(t *testing.T) {
	for _, s := range []string{"", " ", "  ", "   ", "\n", "\x00", "=", "0", "9", "9 1", "open open", "openclose", "open\x00", "open\n", "open\r\n", "\nopen", "\xef\xbb\xbfopen", "hello", "close", "mint", "revoke", "join", "leave", "send", "Open", "list 9", "drop 9", "join9 1", "join 91", "join9 1 1", "closes 9"} {
		refuses(t, s)
	}
	for s := range requests {
		word, rest, _ := strings.Cut(s, " ")
		if rest != "" {
			rest = " " + rest
		}
		for _, other := range []string{word[1:], word[:len(word)-1], word + "s", word + word[:1], word[:1] + word, "x" + word, word + "\x00", strings.ToUpper(word), strings.ToUpper(word[:1]) + word[1:], word[:1] + strings.ToUpper(word[1:]), word + word, "", "0"} {
			refuses(t, other+rest)
			refuses(t, other)
		}
		for _, other := range []string{"open", "close", "mint", "revoke", "join", "leave", "send"} {
			agreeParse(t, other+rest)
		}
		if s != "open" {
			refuses(t, word)
			refuses(t, word+" ")
		}
	}
}

// wordsOf are a request's words, the text being one of them.
func wordsOf(s string) []string {
	return strings.SplitN(s, " ", 5)
}

// P21.1: requests with one word left out, or with one more.
func TestWordsMoreOrFewer(t *testing.T) {
	for s, want := range requests {
		l := wordsOf(s)
		for i := range l {
			fewer := append(append([]string{}, l[:i]...), l[i+1:]...)
			refuses(t, strings.Join(fewer, " "))
		}
		for i := range len(l) + 1 {
			for _, word := range []string{"", "0", "1", "9", "open", "send", "fifo", "=", "=x", "\x00"} {
				more := strings.Join(append(append(append([]string{}, l[:i]...), word), l[i:]...), " ")
				// What stands behind a text, or ahead of its end, is of the text.
				if want.do == send && (i == 5 || i == 4 && strings.HasPrefix(word, "=")) {
					agreeParse(t, more)
					continue
				}
				refuses(t, more)
			}
		}
	}
}

// P21.1: requests with a blank ahead, behind, two between words, without one, and
// with another byte in place of one.
func TestBlanks(t *testing.T) {
	for s, want := range requests {
		refuses(t, " "+s)
		refuses(t, "  "+s)
		if want.do == send {
			longer := want
			longer.text += " "
			asks(t, s+" ", longer)
		} else {
			refuses(t, s+" ")
			refuses(t, s+"  ")
		}
		l := wordsOf(s)
		for i := 1; i < len(l); i++ {
			ahead, behind := strings.Join(l[:i], " "), strings.Join(l[i:], " ")
			for _, between := range []string{"", "  ", "   ", "\x00", "\t", "\n", "\v", "\f", "\r", "\xff", "\x1f", "!", "\u00a0", "\u2003", " \t", "\t ", "\n ", ","} {
				refuses(t, ahead+between+behind)
			}
			for c := range 256 {
				if c != ' ' {
					agreeParse(t, ahead+string([]byte{byte(c)})+behind)
				}
			}
		}
		for _, around := range []string{"\x00", "\t", "\n", "\r", "\xff"} {
			refuses(t, around+s)
			if want.do != send {
				refuses(t, s+around)
			}
		}
	}
}

// P21.1: requests with one byte changed, left out or put in.
func TestChangedRequests(t *testing.T) {
	came := map[bool]int{}
	all := []string{"mint 18446744073709551615 7", "revoke 18446744073709551610 18446744073709551615", "send 18446744073709551609 0 causal =1234567890123456"}
	for s := range requests {
		all = append(all, s)
	}
	for _, s := range all {
		if _, ok := agreeParse(t, s); !ok {
			t.Fatalf("%q is no request", s)
		}
		changed(s, func(other string) {
			_, ok := agreeParse(t, other)
			came[ok]++
		})
	}
	if came[true] < 5000 || came[false] < 5000 {
		t.Fatalf("too few of a kind came: %v", came)
	}
}

// pieceOf tells whether a text lies in another one's memory.
func pieceOf(piece, s string) bool {
	at, from := uintptr(unsafe.Pointer(unsafe.StringData(piece))), uintptr(unsafe.Pointer(unsafe.StringData(s)))
	return piece != "" && at >= from && at < from+uintptr(len(s))
}

// R4: neither a call's text nor a request lies in the memory of the one that it
// is told of, or of another one.
func TestMemory(t *testing.T) {
	for _, text := range []string{"x", "hi there", "1234567890123456"} {
		s := strings.Clone("send 9 1 safe =" + text)
		one, _ := parse.Parse(s)
		other, _ := parse.Parse(s)
		if one.Text != text || pieceOf(one.Text, s) || pieceOf(one.Text, other.Text) {
			t.Errorf("Parse of %q shares memory", s)
		}
		print, again := parse.Print(one), parse.Print(one)
		if print != s || pieceOf(one.Text, print) || pieceOf(print, again) {
			t.Errorf("Print of %s shares memory", askOf(one))
		}
	}
}

// P21.1, P1: each call ends, without a panic, at any bytes.
func TestParseEnds(t *testing.T) {
	const n = 1 << 22
	for _, piece := range []string{" ", "0", "9", "-", "=", "\x00", "\xff", "open", "open ", "close 9", "send 9 1 safe =", "9 ", "= "} {
		all := strings.Repeat(piece, n/len(piece))
		for _, s := range []string{all, "open" + all, "close " + all, "revoke 9 " + all, "mint 9 " + all, "join " + all + " 1", "send 9 1 " + all + " =hi", "send 9 1 safe =" + all, all + "open", all + " 9 1"} {
			ends(t, fmt.Sprintf("Parse of %.30q, %d bytes", s, len(s)), func() {
				if c, code := parse.Parse(s); code != api.ErrParse || c != (api.Call{}) {
					t.Errorf("Parse of %.30q, %d bytes, is %s, %d", s, len(s), askOf(c), code)
				}
			})
		}
	}
}
