package lossy_test

import (
	"math"
	"math/rand"
	"slices"
	"strings"
	"testing"

	"congress/lossy"
)

// P14.3: the texts of a letter that was turned, told one by one.
func TestTurn(t *testing.T) {
	const all = math.MaxUint32
	for _, c := range []struct {
		name, text string
		at         int
		mask       uint32
		want       string
	}{
		{"no bit", "abcdef", 0, 0, "abcdef"},
		{"the lowest byte", "\x00\x00\x00\x00\x00\x00", 1, 0x000000a5, "\x00\xa5\x00\x00\x00\x00"},
		{"the second byte", "\x00\x00\x00\x00\x00\x00", 1, 0x0000a500, "\x00\x00\xa5\x00\x00\x00"},
		{"the third byte", "\x00\x00\x00\x00\x00\x00", 1, 0x00a50000, "\x00\x00\x00\xa5\x00\x00"},
		{"the highest byte", "\x00\x00\x00\x00\x00\x00", 1, 0xa5000000, "\x00\x00\x00\x00\xa5\x00"},
		{"all bytes", "\x00\x00\x00\x00\x00\x00", 1, 0x44332211, "\x00\x11\x22\x33\x44\x00"},
		{"all bits", "\x00\xff\x0f\xf0\x55\xaa", 1, all, "\x00\x00\xf0\x0f\xaa\xaa"},
		{"at 0", "abcdef", 0, 0x01010101, "`cbeef"},
		{"four ahead of the end", "abcdef", 2, 0x03030303, "ab`gfe"},
		{"three ahead of the end", "abcdef", 3, 0x80030303, "abcgfe"},
		{"two ahead of the end", "abcdef", 4, 0x80800303, "abcdfe"},
		{"the last byte", "abcdef", 5, 0x80808003, "abcdee"},
		{"at the end", "abcdef", 6, all, "abcdef"},
		{"beyond the end", "abcdef", 7, all, "abcdef"},
		{"far beyond the end", "abcdef", 1 << 40, all, "abcdef"},
		{"at 2^32", "abcdef", 1 << 32, all, "abcdef"},
		{"three below the greatest", "abcdef", math.MaxInt - 3, all, "abcdef"},
		{"two below the greatest", "abcdef", math.MaxInt - 2, all, "abcdef"},
		{"the greatest", "abcdef", math.MaxInt, all, "abcdef"},
		{"below 0", "abcdef", -1, all, "abcdef"},
		{"two below 0", "abcdef", -2, all, "abcdef"},
		{"four below 0", "abcdef", -4, all, "abcdef"},
		{"as many below 0", "abcdef", -6, all, "abcdef"},
		{"the least", "abcdef", math.MinInt, all, "abcdef"},
		{"2^32 below 0", "abcdef", -1 << 32, all, "abcdef"},
		{"no byte", "", 0, all, ""},
		{"no byte, at 1", "", 1, all, ""},
		{"no byte, below 0", "", -1, all, ""},
		{"one byte", "a", 0, 0x80808001, "`"},
		{"one byte, at its end", "a", 1, all, "a"},
		{"one byte, ahead of it", "a", -1, all, "a"},
		{"one byte, and bits behind it", "a", 0, 0xffffff00, "a"},
		{"the last byte, and bits behind it", "abcdef", 5, 0xffffff00, "abcdef"},
		{"two ahead of the end, and bits behind", "abcdef", 4, 0xffff0000, "abcdef"},
		{"three ahead of the end, and bits behind", "abcdef", 3, 0xff000000, "abcdef"},
		{"bytes that are no runes", "\xff\xfe\x80\xc0", 0, 0x0000ff00, "\xff\x01\x80\xc0"},
		{"bytes that are one rune", "\u20ac", 1, 0x02, "\xe2\x80\xac"},
	} {
		ahead, behind := row(1, 0, c.text), row(0, 2, c.text)
		l := slices.Concat(ahead, row(0, 1, c.text), behind)
		got := agreeTurn(t, l, 0, 1, 0, c.at, c.mask)
		turned := slip{link{0, 1}, c.want, c.want != c.text}
		if want := slices.Concat(ahead, []slip{turned}, behind); !slices.Equal(got, want) {
			t.Errorf("%s: %v, not %v", c.name, got, want)
		}
	}
}

// P14.3: each place of texts of some lengths, and each byte of the mask alone.
func TestTurnEveryPlace(t *testing.T) {
	masks := []uint32{0, 0xff, 0xff00, 0xff0000, 0xff000000, 1, 1 << 15, 1 << 16, 1 << 31, 0x00ff00ff, 0x01020304, math.MaxUint32}
	for _, long := range []int{0, 1, 2, 3, 4, 5, 8, 641} {
		text := strings.Repeat("\x00\xff\x5a", 300)[:long]
		for at := -5; at < long+5; at++ {
			for _, mask := range masks {
				got := agreeTurn(t, row(0, 1, text), 0, 1, 0, at, mask)[0]
				if len(got.text) != long || got.turned != (got.text != text) {
					t.Fatalf("%d bytes, at %d, mask %#x: %d bytes, turned %v", long, at, mask, len(got.text), got.turned)
				}
			}
		}
	}
}

// P14.3: a letter that was turned stays, also if the turn would undo the other
// one; one that was turned by nothing may still be turned.
func TestTurnOnce(t *testing.T) {
	l := row(0, 1, "abcdef", "abcdef")
	once := agreeTurn(t, l, 0, 1, 0, 1, 0x0303)
	if want := []slip{{link{0, 1}, "aa`def", true}, l[1]}; !slices.Equal(once, want) {
		t.Fatalf("turned: %v", once)
	}
	for _, at := range []int{0, 1, 2, 5, 6, -1, math.MaxInt} {
		for _, mask := range []uint32{0, 0x0303, 1, math.MaxUint32} {
			if got := agreeTurn(t, once, 0, 1, 0, at, mask); !slices.Equal(got, once) {
				t.Errorf("turned twice, at %d by %#x: %v", at, mask, got)
			}
		}
	}
	for _, c := range []struct {
		at   int
		mask uint32
	}{{0, 0}, {5, 0xff00}, {6, 1}, {-1, 1}, {math.MinInt, 1}, {math.MaxInt, 1}} {
		still := agreeTurn(t, l, 0, 1, 0, c.at, c.mask)
		if !slices.Equal(still, l) {
			t.Errorf("turned by nothing, at %d by %#x: %v", c.at, c.mask, still)
		}
		if got := agreeTurn(t, still, 0, 1, 0, 1, 0x0303); !slices.Equal(got, once) {
			t.Errorf("turned behind that: %v", got)
		}
	}
	both := agreeTurn(t, once, 0, 1, 1, 0, 1)
	if want := []slip{once[0], {link{0, 1}, "`bcdef", true}}; !slices.Equal(both, want) {
		t.Errorf("the other one: %v", both)
	}
	empty := []slip{{link{0, 1}, "", true}}
	if got := agreeTurn(t, empty, 0, 1, 0, 0, 1); !slices.Equal(got, empty) {
		t.Errorf("an empty one that was turned: %v", got)
	}
}

// P14.3: which letter is turned, at all edges of an index; the others stay.
func TestTurnWhich(t *testing.T) {
	for name, l := range spread() {
		many := agreeMany(t, l, 0, 1)
		for _, index := range indexes(many) {
			got := agreeTurn(t, l, 0, 1, index, 0, 2)
			place, ok := agreeFind(t, l, 0, 1, index)
			for i := range l {
				change := ok && i == place && l[i].text != "" && !l[i].turned
				if change != (got[i] != l[i]) || got[i].link != l[i].link {
					t.Errorf("%s: index %d: %v became %v", name, index, l[i], got[i])
				}
			}
		}
	}
}

// P14.3: a link with no letter, and one the other way, are not turned.
func TestTurnNone(t *testing.T) {
	l := slices.Concat(row(0, 1, "a"), row(2, 2, "b"))
	for _, k := range []link{{1, 0}, {0, 0}, {1, 1}, {0, 2}, {2, 0}, {7, 7}} {
		for _, index := range indexes(len(l)) {
			if got := agreeTurn(t, l, k.from, k.to, index, 0, math.MaxUint32); !slices.Equal(got, l) {
				t.Errorf("%v, index %d: %v", k, index, got)
			}
		}
	}
}

// P14.3: a list that is longer than may be under way stays as long as it was,
// and a long text is turned too.
func TestTurnLong(t *testing.T) {
	long := strings.Repeat("x", 1<<20)
	l := slices.Concat(crowd(5000), row(5, 6, long), crowd(50))
	got := agreeTurn(t, l, 5, 6, 3, 1<<20-2, 0x01010101)
	if want := long[:1<<20-2] + "yy"; len(got) != 5051 || got[5000].text != want || !got[5000].turned {
		t.Error("Turn of a long one")
	}
}

// R4: what was turned is another list; the letters that were given stay.
func TestTurnLeaves(t *testing.T) {
	list := lettersOf(row(0, 1, "abc"))
	got := lossy.Turn(list, 0, 1, 0, 0, 1)
	if list[0].Text != "abc" || list[0].Turned || got[0].Text != "`bc" || !got[0].Turned {
		t.Errorf("%v became %v", list[0], got[0])
	}
}

// P14.3: drawn letters, indexes, places and masks.
func TestTurnDrawn(t *testing.T) {
	r := rand.New(rand.NewSource(143))
	turned := 0
	for range 10000 {
		var l []slip
		for range r.Intn(10) {
			l = append(l, slip{drawnLink(r), drawnText(r), r.Intn(4) == 0})
		}
		k := drawnLink(r)
		if len(l) > 0 && r.Intn(4) > 0 {
			k = l[r.Intn(len(l))].link
		}
		index := drawnIndex(r, agreeMany(t, l, k.from, k.to))
		if !slices.Equal(agreeTurn(t, l, k.from, k.to, index, drawnAt(r), drawnMask(r)), l) {
			turned++
		}
	}
	if turned < 1000 {
		t.Errorf("%d were turned", turned)
	}
}
