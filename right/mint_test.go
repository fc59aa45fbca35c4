package right_test

import (
	"fmt"
	"slices"
	"testing"

	"congress/api"
	"congress/right"
)

// The errors' numbers are those that the chapter says.
func TestErrorNumbers(t *testing.T) {
	if api.OK != fine || api.ErrArg != badArg || api.ErrRight != noRight || api.ErrFull != full {
		t.Fatal(api.OK, api.ErrArg, api.ErrRight, api.ErrFull)
	}
}

// The chapter's examples.
func TestExamples(t *testing.T) {
	x, e := right.Mint(nil, 9, 1, 6)
	if e != api.OK || len(x) != 1 || x[0] != (api.Right{Handle: 9, Session: 1, Give: 6}) {
		t.Fatalf("Mint is %v, error %d", x, e)
	}
	y, e := right.Revoke(x, 9)
	if e != api.OK || len(y) != 1 || y[0] != (api.Right{Handle: 9, Session: 1, Give: 6, Revoked: true}) {
		t.Fatalf("Revoke is %v, error %d", y, e)
	}
	for _, c := range []struct {
		name    string
		table   []api.Right
		handle  uint64
		want    int
		session uint64
		code    api.Errno
	}{
		{"what it gives", x, 9, 2, 1, api.OK},
		{"what it does not give", x, 9, 1, 0, api.ErrRight},
		{"another handle", x, 8, 2, 0, api.ErrRight},
		{"behind the revoke", y, 9, 2, 0, api.ErrRight},
	} {
		if s, e := right.Check(c.table, c.handle, c.want); s != c.session || e != c.code {
			t.Errorf("%s: Check(%d, %d) is %d, error %d", c.name, c.handle, c.want, s, e)
		}
	}
}

// P16.1: a capability stands behind the others, not revoked, whatever its
// session and a handle that may be.
func TestMintBehind(t *testing.T) {
	for _, many := range []int{0, 1, 2, 7, 14, 15} {
		l := hand(many)
		for _, handle := range oddNumbers[1:] {
			for _, session := range oddNumbers {
				for give := 1; give <= 7; give++ {
					got, code := agreeMint(t, l, handle, session, give)
					if code != fine || len(got) != many+1 || got[many] != (card{handle, session, give, false}) || !slices.Equal(got[:many], l) {
						t.Fatalf("Mint %d for %d, give %d, behind %d is %s, error %d", handle, session, give, many, short(got), code)
					}
				}
			}
		}
	}
}

// P16.1: revoked ones stay as they are, ahead of the new one.
func TestMintBehindRevoked(t *testing.T) {
	l := hand(6)
	l[0].revoked, l[3].revoked, l[5].revoked = true, true, true
	got, code := agreeMint(t, l, 9, 1, 7)
	isCode(t, "behind revoked ones", code, fine)
	if !slices.Equal(got[:6], l) || got[6].revoked {
		t.Fatalf("became %s", short(got))
	}
}

// P16.1: ErrArg at a handle of 0, at one that the table has, wherever it stands,
// revoked or not.
func TestMintHandle(t *testing.T) {
	for _, many := range []int{1, 2, 9, 15} {
		for _, handle := range append(oddNumbers[1:len(oddNumbers):len(oddNumbers)], 3) {
			for at := range many {
				for _, gone := range []bool{false, true} {
					l := hand(many)
					l[at].handle, l[at].revoked = handle, gone
					_, code := agreeMint(t, l, handle, 8, 1)
					isCode(t, fmt.Sprintf("handle %d, place %d, revoked %v", handle, at, gone), code, badArg)
				}
			}
		}
	}
	for many := range 18 {
		_, code := agreeMint(t, hand(many), 0, 1, 1)
		isCode(t, fmt.Sprintf("handle 0 in %d", many), code, badArg)
	}
}

// P16.1: handles that are near to one that the table has, or the same in many
// bits, are others.
func TestMintOtherHandle(t *testing.T) {
	for _, handle := range oddNumbers[1:] {
		l := []card{{handle, handle - 1, 7, false}}
		for _, other := range near(handle) {
			want := fine
			if other == 0 {
				want = badArg
			}
			_, code := agreeMint(t, l, other, handle, 1)
			isCode(t, fmt.Sprintf("handle %d beside %d", other, handle), code, want)
		}
	}
}

// P16.1: ErrArg at a give that is not 1 to 7.
func TestMintGive(t *testing.T) {
	for _, give := range wrongGifts {
		for _, many := range []int{0, 1, 15} {
			_, code := agreeMint(t, hand(many), 9, 1, give)
			isCode(t, fmt.Sprintf("give %d", give), code, badArg)
		}
	}
}

// P16.1: ErrFull at 16 or more, revoked ones too.
func TestMintFull(t *testing.T) {
	for many, want := range map[int]int{0: fine, 14: fine, 15: fine, 16: full, 17: full, 18: full, 32: full, 256: full, 5000: full} {
		l := hand(many)
		_, code := agreeMint(t, l, 9, 1, 7)
		isCode(t, fmt.Sprintf("in %d", many), code, want)
		for i := range l {
			l[i].revoked = true
		}
		_, code = agreeMint(t, l, most, most, 1)
		isCode(t, fmt.Sprintf("in %d, all revoked", many), code, want)
	}
}

// P16.1, P1: where several errors hold ErrArg is told, since it is named first.
func TestMintFirstError(t *testing.T) {
	for _, many := range []int{16, 17, 40} {
		l := hand(many)
		l[2].revoked = true
		for _, c := range []struct {
			name   string
			handle uint64
			give   int
		}{
			{"full, handle 0", 0, 1},
			{"full, the first one's handle", 100, 1},
			{"full, a revoked one's handle", 102, 7},
			{"full, the last one's handle", 99 + uint64(many), 1},
			{"full, give 0", 9, 0},
			{"full, give 8", 9, 8},
			{"full, give below 0", 9, -1},
			{"full, the least give", 9, least},
			{"full, the greatest give", 9, greatest},
			{"all at once", 0, 8},
			{"all at once, a handle that it has", 100, 0},
		} {
			_, code := agreeMint(t, l, c.handle, 1, c.give)
			isCode(t, c.name, code, badArg)
		}
	}
	for _, handle := range []uint64{0, 100, 102} {
		for _, give := range wrongGifts {
			_, code := agreeMint(t, hand(3), handle, 1, give)
			isCode(t, "handle and give", code, badArg)
		}
	}
}

// P16.1: of a table that may not be it says the same.
func TestMintWrongTables(t *testing.T) {
	for name, l := range wrongTables() {
		for _, handle := range []uint64{0, 9, 100, 101, 5} {
			for _, give := range []int{0, 1, 7, 8} {
				got, code := agreeMint(t, l, handle, 1, give)
				if code != fine && len(got) != 0 {
					t.Fatalf("%s: error %d and %s", name, code, short(got))
				}
			}
		}
	}
}
