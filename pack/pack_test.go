package pack_test

import (
	"encoding/binary"
	"math"
	"math/big"
	"math/rand"
	"strings"
	"testing"
	"unsafe"

	"congress/pack"
)

const maxInt, minInt = math.MaxInt, math.MinInt

// sampleNumbers are ordinary ones and edges: around each power of 256, 0 and
// the highest one.
func sampleNumbers() []uint64 {
	l := []uint64{0, 1, 2, 127, 128, 254, 258, 1<<63 - 1, 1 << 63, 1<<64 - 2, 1<<64 - 1, 0x0102030405060708, 0xf0e0d0c0b0a09080}
	for k := 1; k < 8; k++ {
		p := uint64(1) << (8 * k)
		l = append(l, p-1, p, p+1)
	}
	draw := rand.New(rand.NewSource(1))
	for range 100 {
		l = append(l, draw.Uint64()>>draw.Intn(64))
	}
	return l
}

func wrongWidths() []int {
	return []int{0, -1, -2, -8, -9, 9, 10, 16, 64, 255, 256, 257, 1 << 31, -1 << 31, 1 << 32, 1<<32 + 1, 1 << 61, 1<<61 + 1, maxInt, maxInt - 1, minInt, minInt + 1}
}

func wrongTextWidths() []int {
	return []int{-1, -2, -8, -255, -256, 256, 257, 511, 512, 1 << 16, 1 << 31, -1 << 31, 1 << 32, 1<<32 + 2, maxInt, maxInt - 1, minInt, minInt + 1}
}

func textWidths() []int {
	return []int{0, 1, 2, 3, 7, 8, 9, 16, 127, 128, 254, 255}
}

func drawText(draw *rand.Rand, n int) string {
	b := make([]byte, n)
	for i := range b {
		b[i] = byte(draw.Intn(256))
	}
	return string(b)
}

// sampleTexts are texts of a number of bytes: letters, bytes 0, bytes 255,
// those that end or begin with 0, a drawn one.
func sampleTexts(long int) []string {
	l := []string{strings.Repeat("a", long), strings.Repeat("\x00", long), strings.Repeat("\xff", long), drawText(rand.New(rand.NewSource(int64(long))), long)}
	if long > 0 {
		l = append(l, strings.Repeat("b", long-1)+"\x00", "\x00"+strings.Repeat("c", long-1))
	}
	return l
}

// P2.1: Put.

func TestPutTellsTheLowestBytesTheHighestFirst(t *testing.T) {
	for _, n := range sampleNumbers() {
		all := binary.BigEndian.AppendUint64(nil, n)
		for width := 1; width <= 8; width++ {
			if s, want := pack.Put(n, width), string(all[8-width:]); s != want {
				t.Errorf("Put(%#x, %d) is %q, not %q", n, width, s, want)
			}
		}
	}
}

func TestPutExamples(t *testing.T) {
	for _, c := range []struct {
		n     uint64
		width int
		want  string
	}{
		{258, 2, "\x01\x02"}, {258, 1, "\x02"}, {258, 3, "\x00\x01\x02"},
		{0, 1, "\x00"}, {255, 1, "\xff"}, {256, 1, "\x00"}, {256, 2, "\x01\x00"},
		{0, 8, "\x00\x00\x00\x00\x00\x00\x00\x00"},
		{1<<64 - 1, 8, "\xff\xff\xff\xff\xff\xff\xff\xff"}, {1<<64 - 1, 1, "\xff"},
		{0x0102030405060708, 8, "\x01\x02\x03\x04\x05\x06\x07\x08"},
		{0x0102030405060708, 7, "\x02\x03\x04\x05\x06\x07\x08"},
	} {
		if s := pack.Put(c.n, c.width); s != c.want {
			t.Errorf("Put(%#x, %d) is %q, not %q", c.n, c.width, s, c.want)
		}
	}
}

func TestPutTellsNothingOfAWrongWidth(t *testing.T) {
	for _, width := range wrongWidths() {
		for _, n := range []uint64{0, 1, 255, 256, 1<<64 - 1} {
			if s := pack.Put(n, width); s != "" {
				t.Errorf("Put(%d, %d) is %q", n, width, s)
			}
		}
	}
}

// P2.1: Fits.

func TestFitsIsBelowThePower(t *testing.T) {
	for _, n := range sampleNumbers() {
		for width := 1; width <= 8; width++ {
			power := new(big.Int).Exp(big.NewInt(256), big.NewInt(int64(width)), nil)
			want := new(big.Int).SetUint64(n).Cmp(power) < 0
			if pack.Fits(n, width) != want {
				t.Errorf("Fits(%#x, %d) is %v", n, width, !want)
			}
		}
	}
}

func TestFitsNotInAWrongWidth(t *testing.T) {
	for _, width := range wrongWidths() {
		for _, n := range []uint64{0, 1, 255, 256, 1<<64 - 1} {
			if pack.Fits(n, width) {
				t.Errorf("Fits(%d, %d) is true", n, width)
			}
		}
	}
}

// P2.1: Take.

func TestTakeTellsNumberAndRest(t *testing.T) {
	for _, c := range []struct {
		s     string
		width int
		n     uint64
		rest  string
	}{
		{"\x01\x02", 2, 258, ""}, {"\x01\x02", 1, 1, "\x02"}, {"\x01\x02\x03", 2, 258, "\x03"},
		{"\x00", 1, 0, ""}, {"\xff", 1, 255, ""}, {"\x01\x00\x00", 2, 256, "\x00"},
		{"\xff\xff\xff\xff\xff\xff\xff\xff", 8, 1<<64 - 1, ""},
		{"\xff\xff\xff\xff\xff\xff\xff\xff\xff", 8, 1<<64 - 1, "\xff"},
		{"\x01\x02\x03\x04\x05\x06\x07\x08\x09", 8, 0x0102030405060708, "\x09"},
		{"\x01\x02\x03\x04\x05\x06\x07\x08\x09", 7, 0x01020304050607, "\x08\x09"},
		{"\x00\x00\x00\x00\x00\x00\x00\x01", 8, 1, ""},
		{"\x80\x00\x00\x00\x00\x00\x00\x00", 8, 1 << 63, ""},
		{"abc and more", 3, 0x616263, " and more"},
	} {
		n, rest, ok := pack.Take(c.s, c.width)
		if n != c.n || rest != c.rest || !ok {
			t.Errorf("Take(%q, %d): %#x, %q, %v", c.s, c.width, n, rest, ok)
		}
	}
}

func TestTakeRefusesTooFewBytes(t *testing.T) {
	for width := 1; width <= 8; width++ {
		for long := range width {
			for _, s := range sampleTexts(long) {
				if n, rest, ok := pack.Take(s, width); n != 0 || rest != "" || ok {
					t.Errorf("Take(%q, %d): %d, %q, %v", s, width, n, rest, ok)
				}
			}
		}
	}
}

func TestTakeRefusesAWrongWidth(t *testing.T) {
	for _, width := range wrongWidths() {
		for _, s := range []string{"", "a", "abcdefgh", "abcdefghi", strings.Repeat("\xff", 300)} {
			if n, rest, ok := pack.Take(s, width); n != 0 || rest != "" || ok {
				t.Errorf("Take(%q, %d): %d, %q, %v", s, width, n, rest, ok)
			}
		}
	}
}

// P2.2: PutText.

func TestPutTextExamples(t *testing.T) {
	for _, c := range []struct {
		s     string
		width int
		want  string
	}{
		{"hi", 3, "\x02hi\x00"}, {"hi", 2, "\x02hi"}, {"", 0, "\x00"}, {"", 1, "\x00\x00"},
		{"", 3, "\x00\x00\x00\x00"}, {"\x00", 1, "\x01\x00"}, {"\x00", 2, "\x01\x00\x00"},
		{"\xff", 1, "\x01\xff"}, {"a\x00", 3, "\x02a\x00\x00"}, {"\xff\x00\xff", 4, "\x03\xff\x00\xff\x00"},
	} {
		if s, ok := pack.PutText(c.s, c.width); s != c.want || !ok {
			t.Errorf("PutText(%q, %d): %q, %v", c.s, c.width, s, ok)
		}
	}
}

func TestPutTextTellsCountTextAndZeros(t *testing.T) {
	for _, width := range textWidths() {
		for long := 0; long <= width; long++ {
			for _, s := range sampleTexts(long) {
				want := string([]byte{byte(long)}) + s + strings.Repeat("\x00", width-long)
				if field, ok := pack.PutText(s, width); field != want || !ok {
					t.Fatalf("PutText(%q, %d): %q, %v", s, width, field, ok)
				}
			}
		}
	}
}

func TestPutTextRefusesTooLongATextAndAWrongWidth(t *testing.T) {
	for _, width := range textWidths() {
		for _, long := range []int{width + 1, width + 2, width + 255, width + 256, 1 << 16} {
			if field, ok := pack.PutText(strings.Repeat("a", long), width); field != "" || ok {
				t.Errorf("PutText of %d bytes, %d: %q, %v", long, width, field, ok)
			}
		}
	}
	for _, width := range wrongTextWidths() {
		for _, s := range []string{"", "a", "hi", strings.Repeat("a", 255), strings.Repeat("a", 256), strings.Repeat("\x00", 600)} {
			if field, ok := pack.PutText(s, width); field != "" || ok {
				t.Errorf("PutText of %d bytes, %d: %q, %v", len(s), width, field, ok)
			}
		}
	}
}

// P2.2: TakeText.

func TestTakeTextTellsTextAndRest(t *testing.T) {
	for _, c := range []struct {
		s          string
		width      int
		text, rest string
	}{
		{"\x02hi\x00z", 3, "hi", "z"}, {"\x02hi\x00", 3, "hi", ""}, {"\x02hi", 2, "hi", ""},
		{"\x02hi\x01", 2, "hi", "\x01"}, {"\x00", 0, "", ""}, {"\x00\x00", 0, "", "\x00"}, {"\x00abc", 0, "", "abc"},
		{"\x00\x00", 1, "", ""}, {"\x01\x00", 1, "\x00", ""}, {"\x01\x00\x00", 2, "\x00", ""},
		{"\x01\xff\x00\xff", 2, "\xff", "\xff"}, {"\x03\xff\x00\xff\x00\x00", 4, "\xff\x00\xff", "\x00"},
	} {
		text, rest, ok := pack.TakeText(c.s, c.width)
		if text != c.text || rest != c.rest || !ok {
			t.Errorf("TakeText(%q, %d): %q, %q, %v", c.s, c.width, text, rest, ok)
		}
	}
}

func mustRefuseText(t *testing.T, s string, width int) {
	t.Helper()
	if text, rest, ok := pack.TakeText(s, width); text != "" || rest != "" || ok {
		t.Errorf("TakeText(%q, %d): %q, %q, %v", s, width, text, rest, ok)
	}
}

func TestTakeTextRefusesTooFewBytes(t *testing.T) {
	mustRefuseText(t, "", 0)
	for _, width := range textWidths() {
		for _, text := range []string{"", strings.Repeat("a", width/2), strings.Repeat("a", width), strings.Repeat("\x00", width)} {
			field, _ := pack.PutText(text, width)
			for long := range len(field) {
				mustRefuseText(t, field[:long], width)
			}
		}
	}
}

func TestTakeTextRefusesACountAboveTheWidth(t *testing.T) {
	for _, width := range textWidths() {
		for count := width + 1; count <= 255; count++ {
			for _, behind := range []string{strings.Repeat("\x00", width), strings.Repeat("a", width), strings.Repeat("a", 300), strings.Repeat("\x00", 300)} {
				mustRefuseText(t, string([]byte{byte(count)})+behind, width)
			}
		}
	}
}

func TestTakeTextRefusesAByteBehindTheTextThatIsNot0(t *testing.T) {
	mustRefuseText(t, "\x02hi\x01", 3)
	for _, width := range textWidths() {
		for _, long := range []int{0, 1, width / 2, width - 1} {
			if long < 0 || long >= width {
				continue
			}
			field, _ := pack.PutText(strings.Repeat("a", long), width)
			for at := 1 + long; at < len(field); at++ {
				for _, b := range []byte{1, 'a', 128, 255} {
					spoilt := []byte(field)
					spoilt[at] = b
					mustRefuseText(t, string(spoilt), width)
					mustRefuseText(t, string(spoilt)+"rest", width)
				}
			}
		}
	}
}

func TestTakeTextRefusesAWrongWidth(t *testing.T) {
	for _, width := range wrongTextWidths() {
		for _, s := range []string{"", "\x00", "\x01a", "\x00\x00\x00", strings.Repeat("\x00", 257), strings.Repeat("\x00", 1200), "\xff" + strings.Repeat("a", 255), "\xff" + strings.Repeat("a", 255) + strings.Repeat("\x00", 400)} {
			mustRefuseText(t, s, width)
		}
	}
}

// Every text of up to four bytes of a few kinds is taken just where it begins
// with one of the fields that PutText tells.
func TestTakeTextTakesJustWhatPutTextTells(t *testing.T) {
	kinds := []byte{0, 1, 2, 3, 'a', 255}
	all, last := []string{""}, []string{""}
	for range 4 {
		var next []string
		for _, s := range last {
			for _, b := range kinds {
				next = append(next, s+string([]byte{b}))
			}
		}
		all, last = append(all, next...), next
	}
	for width := range 4 {
		fields := map[string]string{}
		for _, text := range all {
			if field, ok := pack.PutText(text, width); ok {
				fields[field] = text
			}
		}
		for _, s := range all {
			want, is := fields[s[:min(1+width, len(s))]]
			text, rest, ok := pack.TakeText(s, width)
			if text != want || ok != is || is && rest != s[1+width:] || !is && rest != "" {
				t.Fatalf("TakeText(%q, %d): %q, %q, %v", s, width, text, rest, ok)
			}
		}
	}
}

// P2.3.

func TestWhatIsPutIsTaken(t *testing.T) {
	for _, n := range sampleNumbers() {
		for width := 1; width <= 8; width++ {
			for _, behind := range []string{"", "\x00", "z", "\xff and more"} {
				m, rest, ok := pack.Take(pack.Put(n, width)+behind, width)
				if lowest := n << (64 - 8*width) >> (64 - 8*width); m != lowest || rest != behind || !ok || pack.Fits(n, width) != (m == n) {
					t.Fatalf("%#x, %d: %#x, %q, %v", n, width, m, rest, ok)
				}
			}
		}
	}
	for _, width := range textWidths() {
		for long := 0; long <= width; long++ {
			for _, s := range sampleTexts(long) {
				for _, behind := range []string{"", "\x00", "z", "\xff and more"} {
					field, _ := pack.PutText(s, width)
					if text, rest, ok := pack.TakeText(field+behind, width); text != s || rest != behind || !ok {
						t.Fatalf("%q, %d: %q, %q, %v", s, width, text, rest, ok)
					}
				}
			}
		}
	}
}

func TestWhatIsTakenAndPutAgainIsWhatStoodThere(t *testing.T) {
	draw := rand.New(rand.NewSource(3))
	taken := 0
	for range 20000 {
		s := drawText(draw, draw.Intn(12))
		for width := 1; width <= 8; width++ {
			if n, rest, ok := pack.Take(s, width); ok && (pack.Put(n, width)+rest != s || !pack.Fits(n, width)) || ok != (len(s) >= width) {
				t.Fatalf("Take(%q, %d): %#x, %q, %v", s, width, n, rest, ok)
			}
		}
		few := []byte(s)
		for i := range few {
			few[i] %= 4
		}
		for width := range 6 {
			text, rest, ok := pack.TakeText(string(few), width)
			if !ok {
				continue
			}
			taken++
			if field, put := pack.PutText(text, width); field+rest != string(few) || !put {
				t.Fatalf("TakeText(%q, %d): %q, %q", few, width, text, rest)
			}
		}
	}
	if taken < 1000 {
		t.Errorf("only %d texts were taken", taken)
	}
}

func TestAFieldHasAlwaysTheSameNumberOfBytes(t *testing.T) {
	for width := 1; width <= 8; width++ {
		for _, n := range sampleNumbers() {
			if long := len(pack.Put(n, width)); long != width {
				t.Fatalf("Put(%#x, %d) has %d bytes", n, width, long)
			}
		}
	}
	for width := 0; width <= 255; width++ {
		for long := 0; long <= width; long++ {
			if field, ok := pack.PutText(strings.Repeat("a", long), width); len(field) != width+1 || !ok {
				t.Fatalf("PutText of %d bytes, %d: %d bytes, %v", long, width, len(field), ok)
			}
		}
	}
}

// P1, R1: no call panics, at any arguments.
func TestNoCallPanics(t *testing.T) {
	widths := append(wrongWidths(), wrongTextWidths()...)
	for width := -300; width <= 600; width++ {
		widths = append(widths, width)
	}
	texts := []string{"", "\x00", "\xff", "a", strings.Repeat("\xff", 255), strings.Repeat("\xff", 256), strings.Repeat("\x00", 256), strings.Repeat("a", 1<<16)}
	for _, width := range widths {
		for _, n := range []uint64{0, 1, 1<<64 - 1} {
			pack.Put(n, width)
			pack.Fits(n, width)
		}
		for _, s := range texts {
			pack.Take(s, width)
			pack.PutText(s, width)
			pack.TakeText(s, width)
		}
	}
}

// R4: an answer shares no memory with an argument, or with another answer.
func TestAnswersShareNoMemory(t *testing.T) {
	field, _ := pack.PutText("some text", 20)
	s := field + "behind it"
	text, rest, _ := pack.TakeText(s, 20)
	_, behind, _ := pack.Take(s, 2)
	same, _ := pack.PutText(s, 255)
	answers := []string{s, text, rest, behind, same}
	for i, a := range answers {
		for _, b := range answers[i+1:] {
			if overlap(a, b) {
				t.Errorf("%q and %q lie in one memory", a, b)
			}
		}
	}
}

func overlap(a, b string) bool {
	begin := func(s string) uintptr { return uintptr(unsafe.Pointer(unsafe.StringData(s))) }
	return begin(a) < begin(b)+uintptr(len(b)) && begin(b) < begin(a)+uintptr(len(a))
}
