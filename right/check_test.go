package right_test

import (
	"fmt"
	"slices"
	"testing"
)

// near is numbers that differ little from one: by one, or in one bit.
func near(n uint64) []uint64 {
	l := []uint64{n - 1, n + 1, n << 32, n >> 32, n<<32 | n>>32, uint64(uint32(n)), ^n, -n}
	for bit := range 64 {
		l = append(l, n^1<<bit)
	}
	return slices.DeleteFunc(l, func(x uint64) bool { return x == n })
}

// wrongTables are tables that may not be.
func wrongTables() map[string][]card {
	tables := map[string][]card{
		"handle 0":               {{0, 1, 7, false}},
		"handle 0, revoked":      {{0, 1, 7, true}, {9, 1, 7, false}},
		"handle 0 twice":         {{0, 1, 7, false}, {0, 2, 7, true}},
		"twice":                  {{9, 1, 7, false}, {9, 2, 7, false}},
		"twice, first revoked":   {{9, 1, 7, true}, {9, 2, 7, false}},
		"twice, second revoked":  {{9, 1, 7, false}, {9, 2, 7, true}},
		"twice, both revoked":    {{9, 1, 7, true}, {9, 2, 7, true}},
		"twice, others between":  {{5, 3, 7, false}, {9, 1, 2, false}, {6, 3, 7, false}, {9, 2, 5, false}, {7, 1, 1, true}},
		"twice, the same":        {{9, 1, 7, false}, {9, 1, 7, false}},
		"three times":            {{9, 1, 1, true}, {9, 2, 2, false}, {9, 3, 4, false}},
		"17":                     hand(17),
		"100":                    hand(100),
		"17, the last one twice": append(hand(16), card{100, 9, 7, false}),
	}
	for _, give := range wrongGifts {
		tables[fmt.Sprintf("give %d", give)] = []card{{9, 1, give, false}, {5, 2, give, true}}
	}
	return tables
}

// P16.2: each want against each give.
func TestCheckGive(t *testing.T) {
	wants := append([]int{1, 2, 3, 4, 5, 6, 7}, wrongGifts...)
	for give := 1; give <= 7; give++ {
		for _, session := range oddNumbers {
			l := append(hand(3), card{9, session, give, false}, card{8, 77, 7, false})
			for _, want := range wants {
				got, code := agreeCheck(t, l, 9, want)
				if given := want >= 1 && want <= 7 && want&^give == 0; given != (code == fine) || given && got != session || !given && got != 0 {
					t.Fatalf("give %d for %d, want %d: %d, error %d", give, session, want, got, code)
				}
			}
		}
	}
}

// P16.2: a want that is not 1 to 7 is ErrRight, whatever a capability gives, were
// it all bits.
func TestCheckWrongWant(t *testing.T) {
	for _, give := range append([]int{1, 7}, wrongGifts...) {
		l := []card{{9, 1, give, false}}
		for _, want := range wrongGifts {
			_, code := agreeCheck(t, l, 9, want)
			isCode(t, fmt.Sprintf("give %d, want %d", give, want), code, noRight)
		}
		for want := 1; want <= 7; want++ {
			agreeCheck(t, l, 9, want)
		}
	}
}

// P16.2: a handle at each place of a table; one that is not there, however near.
func TestCheckHandle(t *testing.T) {
	for _, many := range []int{1, 2, 15, 16} {
		for _, handle := range oddNumbers[1:] {
			for at := range many {
				l := hand(many)
				l[at] = card{handle, 50, 5, false}
				got, code := agreeCheck(t, l, handle, 4)
				if code != fine || got != 50 {
					t.Fatalf("handle %d at place %d of %d: %d, error %d", handle, at, many, got, code)
				}
				for _, other := range near(handle) {
					if other >= 100 && other < 116 {
						continue
					}
					_, code := agreeCheck(t, l, other, 4)
					isCode(t, fmt.Sprintf("%d beside %d", other, handle), code, noRight)
				}
			}
		}
	}
	for _, handle := range oddNumbers {
		_, code := agreeCheck(t, nil, handle, 1)
		isCode(t, "in an empty table", code, noRight)
	}
}

// P16.2: one that was revoked gives nothing, those beside it what they gave.
func TestCheckRevoked(t *testing.T) {
	for at := range 16 {
		l := hand(16)
		l[at].revoked = true
		for i, c := range l {
			got, code := agreeCheck(t, l, c.handle, c.give)
			if (code == fine) != (i != at) || i != at && got != c.session {
				t.Fatalf("%d revoked, handle %d: %d, error %d", at, c.handle, got, code)
			}
		}
		for want := 1; want <= 7; want++ {
			_, code := agreeCheck(t, l, l[at].handle, want)
			isCode(t, "revoked", code, noRight)
		}
	}
}

// P16.2: of a handle that stands twice the first one tells.
func TestCheckTwice(t *testing.T) {
	for _, c := range []struct {
		name          string
		first, second card
		want          int
		session       uint64
		code          int
	}{
		{"both valid", card{9, 1, 7, false}, card{9, 2, 7, false}, 2, 1, fine},
		{"the first revoked", card{9, 1, 7, true}, card{9, 2, 7, false}, 2, 0, noRight},
		{"the second revoked", card{9, 1, 7, false}, card{9, 2, 7, true}, 2, 1, fine},
		{"both revoked", card{9, 1, 7, true}, card{9, 2, 7, true}, 2, 0, noRight},
		{"the second gives it", card{9, 1, 1, false}, card{9, 2, 2, false}, 2, 0, noRight},
		{"the first gives it", card{9, 1, 2, false}, card{9, 2, 1, false}, 2, 1, fine},
		{"both together give it", card{9, 1, 1, false}, card{9, 1, 2, false}, 3, 0, noRight},
		{"of handle 0", card{0, 1, 7, false}, card{0, 2, 7, false}, 7, 1, fine},
		{"of handle 0, revoked", card{0, 1, 7, true}, card{0, 2, 7, false}, 7, 0, noRight},
	} {
		for _, between := range []int{0, 1, 5, 20} {
			l := append(append([]card{c.first}, hand(between)...), c.second)
			got, code := agreeCheck(t, l, c.first.handle, c.want)
			if got != c.session || code != c.code {
				t.Errorf("%s, %d between: %d, error %d", c.name, between, got, code)
			}
		}
	}
}

// P16.2: Check, Revoke, Drop and May of tables that may not be.
func TestWrongTables(t *testing.T) {
	for _, l := range wrongTables() {
		agreeMay(t, l)
		for _, handle := range []uint64{0, 1, 5, 9, 100, 107, 115, 116, most} {
			for want := -1; want <= 8; want++ {
				agreeCheck(t, l, handle, want)
			}
			agreeRevoke(t, l, handle)
		}
		for _, session := range []uint64{0, 1, 2, 3, most} {
			agreeDrop(t, l, session)
		}
	}
}
