package crc_test

import (
	"hash/crc32"
	"math/rand"
	"strings"
	"testing"

	"congress/crc"
)

// sampleTexts are ordinary texts and edges: the empty one, those of fewer than
// four bytes, of exactly four, bytes 0 and 255, and drawn ones.
func sampleTexts() []string {
	l := []string{
		"", "a", "ab", "abc", "abcd", "abcde", "123456789", "some text",
		"\x00", "\x00\x00", "\x00\x00\x00", "\x00\x00\x00\x00", "\x00\x00\x00\x00\x00",
		"\xff", "\xff\xff", "\xff\xff\xff", "\xff\xff\xff\xff", "\xff\xff\xff\xff\xff",
		"\x00\xff", "\xff\x00", "\x80", "\x01", "a\x00", "\x00a", "ä€ \xf0\x28",
		strings.Repeat("\x00", 637), strings.Repeat("\xff", 637),
	}
	draw := rand.New(rand.NewSource(1))
	for n := range 40 {
		l = append(l, drawText(draw, n))
	}
	return l
}

func drawText(draw *rand.Rand, n int) string {
	b := make([]byte, n)
	for i := range b {
		b[i] = byte(draw.Intn(256))
	}
	return string(b)
}

func sampleRegisters() []uint32 {
	l := []uint32{0, 0xffffffff, 1, 0x80000000, 0xff, 0x100, 0xffffff00, 0xedb88320, 0x12345678}
	draw := rand.New(rand.NewSource(2))
	for range 50 {
		l = append(l, draw.Uint32())
	}
	return l
}

// stepByBits is a byte's step as the chapter's words have it, bit by bit, on
// an array instead of a word.
func stepByBits(reg uint32, b byte) uint32 {
	var bits [32]bool
	for i := range bits {
		bits[i] = reg>>i&1 == 1
	}
	for i := range 8 {
		bits[i] = bits[i] != (b>>i&1 == 1)
	}
	for range 8 {
		low := bits[0]
		copy(bits[:], bits[1:])
		bits[31] = false
		for i := range bits {
			bits[i] = bits[i] != (low && uint32(0xedb88320)>>i&1 == 1)
		}
	}
	var out uint32
	for i := range bits {
		if bits[i] {
			out |= 1 << i
		}
	}
	return out
}

// P1.1

func TestStepKnown(t *testing.T) {
	for _, c := range []struct {
		reg  uint32
		b    byte
		want uint32
	}{
		{0, 0, 0},
		{0, 1, 0x77073096},
		{0, 0x80, 0xedb88320},
		{0, 255, 0x2d02ef8d},
		{0xffffffff, 0, 0x2dfd1072},
		{0xffffffff, 255, 0x00ffffff},
		{0x100, 0, 1},
		{0x80000000, 0, 0x00800000},
		{1, 0, 0x77073096},
		{1, 1, 0},
	} {
		if got := crc.Step(c.reg, c.b); got != c.want {
			t.Errorf("Step(%x, %x): %x, want %x", c.reg, c.b, got, c.want)
		}
	}
}

func TestStepAllBytes(t *testing.T) {
	for _, reg := range sampleRegisters() {
		for b := range 256 {
			if got, want := crc.Step(reg, byte(b)), stepByBits(reg, byte(b)); got != want {
				t.Errorf("Step(%x, %x): %x, want %x", reg, b, got, want)
			}
		}
	}
}

func TestOfKnown(t *testing.T) {
	for _, c := range []struct {
		s    string
		want uint32
	}{
		{"", 0},
		{"a", 0xe8b7be43},
		{"123456789", 0xcbf43926},
		{"\x00", 0xd202ef8d},
		{"\xff", 0xff000000},
		{"\x00\x00\x00\x00", 0x2144df1c},
		{"\xff\xff\xff\xff", 0xffffffff},
	} {
		if got := crc.Of(c.s); got != c.want {
			t.Errorf("Of(%q): %x, want %x", c.s, got, c.want)
		}
	}
}

func TestOfIsSteps(t *testing.T) {
	for _, s := range sampleTexts() {
		reg := uint32(0xffffffff)
		for i := range len(s) {
			reg = crc.Step(reg, s[i])
		}
		if got := crc.Of(s); got != ^reg {
			t.Errorf("Of(%q): %x, its steps: %x", s, got, ^reg)
		}
	}
}

func TestOfIsTheCommonSum(t *testing.T) {
	texts := append(sampleTexts(), strings.Repeat("long text ", 1<<16))
	for _, s := range texts {
		if got, want := crc.Of(s), crc32.ChecksumIEEE([]byte(s)); got != want {
			t.Errorf("Of of %d bytes: %x, want %x", len(s), got, want)
		}
	}
}

func TestOfHangsOnOrder(t *testing.T) {
	if crc.Of("ab") == crc.Of("ba") {
		t.Error("ab and ba have one sum")
	}
}

// P1.2

func TestSealKnown(t *testing.T) {
	for s, want := range map[string]string{
		"":                 "\x00\x00\x00\x00",
		"a":                "a\x43\xbe\xb7\xe8",
		"123456789":        "123456789\x26\x39\xf4\xcb",
		"\xff":             "\xff\x00\x00\x00\xff",
		"\xff\xff\xff\xff": "\xff\xff\xff\xff\xff\xff\xff\xff",
	} {
		if got := crc.Seal(s); got != want {
			t.Errorf("Seal(%q): %q, want %q", s, got, want)
		}
	}
}

func TestSealLaysTheLowestByteFirst(t *testing.T) {
	for _, s := range sampleTexts() {
		n := crc.Of(s)
		want := s + string([]byte{byte(n), byte(n >> 8), byte(n >> 16), byte(n >> 24)})
		if got := crc.Seal(s); got != want {
			t.Errorf("Seal(%q): %q, want %q", s, got, want)
		}
	}
}

func TestOkOfSealed(t *testing.T) {
	for _, s := range sampleTexts() {
		u := crc.Seal(s)
		if !crc.Ok(u) {
			t.Errorf("%q is not Ok", u)
		}
		if u = crc.Seal(u); !crc.Ok(u) {
			t.Errorf("%q, sealed twice, is not Ok", u)
		}
	}
}

func TestOkOfShortTexts(t *testing.T) {
	for n := range 4 {
		for _, b := range []string{"\x00", "\xff", "a"} {
			if s := strings.Repeat(b, n); crc.Ok(s) {
				t.Errorf("%q is Ok", s)
			}
		}
	}
}

func TestOkOfFourBytes(t *testing.T) {
	if !crc.Ok("\x00\x00\x00\x00") {
		t.Error("the seal of the empty text is not Ok")
	}
	for _, s := range []string{
		"\x01\x00\x00\x00", "\x00\x01\x00\x00", "\x00\x00\x01\x00", "\x00\x00\x00\x01",
		"\xff\xff\xff\xff", "abcd", "\x00\x00\x00\x80",
	} {
		if crc.Ok(s) {
			t.Errorf("%q is Ok", s)
		}
	}
}

func TestOkIsSealOfWhatIsAhead(t *testing.T) {
	for _, s := range sampleTexts() {
		for _, u := range []string{s, s + "\x00\x00\x00\x00", crc.Seal(s), crc.Seal(s) + "x", "x" + crc.Seal(s)} {
			want := len(u) >= 4 && u == crc.Seal(u[:len(u)-4])
			if crc.Ok(u) != want {
				t.Errorf("Ok(%q): %v", u, !want)
			}
		}
	}
}

func TestOkOfWrongTexts(t *testing.T) {
	u := crc.Seal("123456789")
	for _, s := range []string{
		"123456789",                 // no sum
		"123456789\xcb\xf4\x39\x26", // the highest byte first
		"123456789\xd9\xc6\x0b\x34", // bits not turned at the end
		"123456788" + u[9:],
		u[9:] + "123456789",
		u[1:], u[:len(u)-1],
		u + "\x00", "\x00" + u,
	} {
		if crc.Ok(s) {
			t.Errorf("%q is Ok", s)
		}
	}
}

// P1.3

func exclusiveOr(a, b, c string) string {
	out := make([]byte, len(a))
	for i := range out {
		out[i] = a[i] ^ b[i] ^ c[i]
	}
	return string(out)
}

func TestSumOfThree(t *testing.T) {
	draw := rand.New(rand.NewSource(3))
	for n := range 70 {
		for _, a := range []string{drawText(draw, n), strings.Repeat("\x00", n), strings.Repeat("\xff", n)} {
			b, c := drawText(draw, n), drawText(draw, n)
			got := crc.Of(a) ^ crc.Of(b) ^ crc.Of(c)
			if want := crc.Of(exclusiveOr(a, b, c)); got != want {
				t.Errorf("%q %q %q: %x, want %x", a, b, c, got, want)
			}
		}
	}
}

// turn turns a mask's bits in the four bytes of u from at on; those that would
// lie behind u's end, or ahead of its beginning, are left out.
func turn(u string, at int, mask uint32) string {
	b := []byte(u)
	for i := range 4 {
		if k := at + i; k >= 0 && k < len(b) {
			b[k] ^= byte(mask >> (8 * i))
		}
	}
	return string(b)
}

func masks() []uint32 {
	l := []uint32{0xffffffff, 0x80000001, 0xedb88320, 0x04c11db7, 0xdb710641}
	for i := range 32 {
		for k := range i + 1 {
			l = append(l, 1<<i|1<<k)
		}
	}
	draw := rand.New(rand.NewSource(4))
	for range 200 {
		l = append(l, draw.Uint32())
	}
	return l
}

// Places from -3 on and up to the last byte: windows over the beginning, in
// the middle, over the border to the sum, within it, and over the end.
func TestTurnedBitsAreSeen(t *testing.T) {
	l := masks()
	for _, s := range []string{"", "a", "ab", "abc", "abcd", "\x00\x00\x00\x00", "\xff\xff\xff\xff", "123456789", "some longer text"} {
		u := crc.Seal(s)
		for at := -3; at < len(u); at++ {
			for _, mask := range l {
				if w := turn(u, at, mask); w != u && crc.Ok(w) {
					t.Errorf("%q turned at %d by %x is Ok", u, at, mask)
				}
			}
		}
	}
}

func TestTurnedBitsOfAPacketAreSeen(t *testing.T) {
	draw := rand.New(rand.NewSource(5))
	u := crc.Seal(drawText(draw, 637))
	for at := range len(u) - 3 {
		mask := draw.Uint32() | 1
		if crc.Ok(turn(u, at, mask)) {
			t.Errorf("turned at %d by %x: Ok", at, mask)
		}
	}
}

// lack is by how much a text is not sealed: 0 where it is.
func lack(u string) uint32 {
	end := len(u) - 4
	n := crc.Of(u[:end])
	for i := range 4 {
		n ^= uint32(u[end+i]) << (8 * i)
	}
	return n
}

// Every mask of a window: as sums of texts of one length add up, a mask's lack
// is the exclusive or of its bits' lacks, so no mask is missed if and only if
// the 32 bits' lacks do not depend on one another.
func TestNoMaskIsMissed(t *testing.T) {
	for _, s := range []string{"", "a", "abc", "abcd", "123456789", strings.Repeat("long ", 30)} {
		u := crc.Seal(s)
		for at := range len(u) - 3 {
			var l []uint32
			for i := range 32 {
				l = append(l, lack(turn(u, at, 1<<i)))
			}
			if n := rank(l); n != 32 {
				t.Errorf("%q at %d: rank %d", u, at, n)
			}
		}
	}
}

func rank(l []uint32) int {
	var byTop [32]uint32
	n := 0
	for _, v := range l {
		for i := 31; i >= 0 && v != 0; i-- {
			if v>>i&1 == 0 {
				continue
			}
			if byTop[i] == 0 {
				byTop[i] = v
				n++
				break
			}
			v ^= byTop[i]
		}
	}
	return n
}
