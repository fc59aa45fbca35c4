package parse_test

import (
	"fmt"
	"strings"
	"testing"

	"congress/parse"
)

// prints asks that May is true, and what Print tells.
func prints(t *testing.T, a ask, want string) {
	t.Helper()
	if s, ok := agreeCall(t, a); !ok || s != want {
		t.Errorf("Print of %s is %q, not %q", a, s, want)
	}
}

// isNone asks that May is false, and that Print tells nothing.
func isNone(t *testing.T, a ask) {
	t.Helper()
	if s, ok := agreeCall(t, a); ok || s != "" {
		t.Errorf("%s is a call, printed as %q", a, s)
	}
}

// P21.1: every kind of call.
func TestPrint(t *testing.T) {
	for s, a := range requests {
		prints(t, a, s)
	}
}

// P21.1: each field of each kind of call at 0, at its greatest, and just above it.
func TestFields(t *testing.T) {
	for _, h := range oddHandles {
		prints(t, ask{do: closes, handle: h}, fmt.Sprintf("close %d", h))
		prints(t, ask{do: mint, handle: h, give: 7}, fmt.Sprintf("mint %d 7", h))
		prints(t, ask{do: revoke, handle: h, other: 1}, fmt.Sprintf("revoke %d 1", h))
		prints(t, ask{do: revoke, handle: 1, other: h}, fmt.Sprintf("revoke 1 %d", h))
		prints(t, ask{do: join, handle: h, group: 7}, fmt.Sprintf("join %d 7", h))
		prints(t, ask{do: leave, handle: h, group: 7}, fmt.Sprintf("leave %d 7", h))
		prints(t, ask{do: send, handle: h, group: 7, service: 3}, fmt.Sprintf("send %d 7 safe =", h))
	}
	for _, n := range oddFields {
		if n >= 1 && n <= 7 {
			prints(t, ask{do: mint, handle: 9, give: n}, fmt.Sprintf("mint 9 %d", n))
		} else {
			isNone(t, ask{do: mint, handle: 9, give: n})
		}
		if n >= 0 && n <= 7 {
			prints(t, ask{do: join, handle: 9, group: n}, fmt.Sprintf("join 9 %d", n))
			prints(t, ask{do: leave, handle: 9, group: n}, fmt.Sprintf("leave 9 %d", n))
			prints(t, ask{do: send, handle: 9, group: n, text: "x"}, fmt.Sprintf("send 9 %d fifo =x", n))
		} else {
			isNone(t, ask{do: join, handle: 9, group: n})
			isNone(t, ask{do: leave, handle: 9, group: n})
			isNone(t, ask{do: send, handle: 9, group: n, text: "x"})
		}
		if n < 0 || n > 3 {
			isNone(t, ask{do: send, handle: 9, service: n, text: "x"})
		}
	}
	for n, name := range []string{"fifo", "causal", "agreed", "safe"} {
		prints(t, ask{do: send, handle: 9, service: n, text: "x"}, "send 9 0 "+name+" =x")
	}
}

// P21.1: texts of 0, 1, 15, 16 and 17 bytes, of any kind.
func TestTextsOfCalls(t *testing.T) {
	for c := range 256 {
		one := string([]byte{byte(c)})
		for _, n := range []int{0, 1, 15, 16} {
			text := strings.Repeat(one, n)
			prints(t, ask{do: send, handle: 9, group: 1, service: 1, text: text}, "send 9 1 causal ="+text)
		}
		for _, n := range []int{17, 18, 32, 256 + 16, 1000} {
			isNone(t, ask{do: send, handle: 9, group: 1, service: 1, text: strings.Repeat(one, n)})
		}
	}
	for _, text := range oddTexts {
		if a := (ask{do: send, text: text}); len(text) <= 16 {
			prints(t, a, "send 0 0 fifo ="+text)
		} else {
			isNone(t, a)
		}
	}
}

// P21.1: kinds below 0 and above that of a send.
func TestKinds(t *testing.T) {
	for _, do := range oddKinds {
		for _, a := range []ask{{}, {handle: 9}, {handle: 9, give: 1}, {handle: 9, group: 1}, {handle: 9, other: 1}, {handle: 9, group: 1, service: 1, text: "x"}, {text: "x"}, {service: -1}, {group: 8}} {
			a.do = do
			if _, ok := agreeCall(t, a); ok && (do < 0 || do > 6) {
				t.Errorf("%s is a call", a)
			}
		}
	}
}

// P21.1: a field that the kind's request does not say.
func TestFieldsTooMany(t *testing.T) {
	says := map[int]string{open: "", closes: "h", mint: "hr", revoke: "ho", join: "hg", leave: "hg", send: "hgst"}
	for s, a := range requests {
		for field, set := range map[string]func(*ask, int){
			"h": func(a *ask, n int) { a.handle = uint64(n) },
			"o": func(a *ask, n int) { a.other = uint64(n) },
			"r": func(a *ask, n int) { a.give = n },
			"g": func(a *ask, n int) { a.group = n },
			"s": func(a *ask, n int) { a.service = n },
			"t": func(a *ask, n int) { a.text = fmt.Sprint(n) },
		} {
			for _, n := range []int{1, 2, 3, 7, 8, -1, 256, 1 << 32, leastInt, mostInt} {
				other := a
				set(&other, n)
				if strings.Contains(says[a.do], field) {
					agreeCall(t, other)
				} else {
					isNone(t, other)
				}
			}
		}
		prints(t, a, s)
	}
	for _, text := range []string{" ", "=", "\x00", "x", strings.Repeat("x", 17)} {
		for _, a := range requests {
			if a.do != send {
				a.text = text
				isNone(t, a)
			}
		}
	}
}

// P21.1: all calls of fields at the edges.
func TestOddCalls(t *testing.T) {
	came := map[bool]int{}
	for _, do := range []int{0, 1, 2, 3, 4, 5, 6, 7, -1, mostInt} {
		for _, handle := range []uint64{0, 9, most} {
			for _, other := range []uint64{0, 1, most} {
				for _, give := range []int{0, 1, 7, 8, -1} {
					for _, group := range []int{0, 7, 8, -1} {
						for _, service := range []int{0, 3, 4, -1} {
							for _, text := range []string{"", "x", "1234567890123456", "12345678901234567"} {
								_, ok := agreeCall(t, ask{do, handle, other, give, group, service, text})
								came[ok]++
							}
						}
					}
				}
			}
		}
	}
	if came[true] < 50 || came[false] < 1000 {
		t.Fatalf("too few of a kind came: %v", came)
	}
}

// P21.1, P1: each call ends, without a panic, at any call.
func TestPrintEnds(t *testing.T) {
	long := strings.Repeat("= ", 1<<22)
	for _, do := range oddKinds {
		for _, n := range oddFields {
			text := "x"
			if n == mostInt || n == 1 {
				text = long
			}
			a := ask{do, most, most, n, n, n, text}
			ends(t, fmt.Sprintf("Print of %s", a), func() {
				if parse.May(a.call()) || parse.Print(a.call()) != "" {
					t.Errorf("%s is a call", a)
				}
			})
		}
	}
}
