package entry_test

import (
	"bytes"
	"encoding/binary"
	"math"
	"math/rand"
	"strings"
	"testing"
	"unsafe"

	"congress/api"
	"congress/entry"
)

const (
	full17 = "12345678901234567"
	full16 = "1234567890123456"
)

// oracle is whether an entry may be, word by word as the chapter says it.
func oracle(e api.Entry) bool {
	if e == (api.Entry{}) {
		return true
	}
	kind := e.Kind == 1 || e.Kind == 2 || e.Kind == 3
	service := e.Service >= 0 && e.Service <= 3
	if e.Kind == 2 || e.Kind == 3 {
		service = e.Service == 2
	}
	group := e.Group >= 0 && e.Group <= 7
	text := len(e.Text) <= 16
	if e.Kind == 2 || e.Kind == 3 {
		text = len(e.Text) == 0
	}
	return kind && service && group && e.Session < 65536 && e.Number < 4294967296 && text
}

// bytesOf lays an entry that may be without the program's packages.
func bytesOf(e api.Entry) string {
	b := []byte{byte(e.Kind), byte(e.Service), byte(e.Group)}
	b = binary.BigEndian.AppendUint16(b, uint16(e.Session))
	b = binary.BigEndian.AppendUint32(b, uint32(e.Number))
	b = append(b, byte(len(e.Text)))
	b = append(b, e.Text...)
	return string(append(b, make([]byte, 28-len(b))...))
}

func texts() []string {
	return []string{
		"", "h", "hi", "\x00", "\xff", "a\x00", "\x00a", "a\x00\x00", "\x02hi", "123456789012345", full16, full17,
		strings.Repeat("\x00", 15), strings.Repeat("\x00", 16), strings.Repeat("\x00", 17),
		strings.Repeat("\xff", 15), strings.Repeat("\xff", 16), strings.Repeat("\xff", 17),
		strings.Repeat("x", 255), strings.Repeat("x", 256), strings.Repeat("x", 257), strings.Repeat("x", 272),
	}
}

func ints(end int) []int {
	l := []int{-1, -2, -255, -256, -1 << 31, -1 << 32, math.MinInt, math.MinInt + 1, 255, 256, 257, 258, 259, 1 << 16, 1<<16 + 1, 1 << 31, 1 << 32, 1<<32 + 1, math.MaxInt, math.MaxInt - 1}
	for n := range end + 2 {
		l = append(l, n)
	}
	return l
}

func sessions() []uint64 {
	return []uint64{0, 1, 3, 255, 256, 258, 65534, 65535, 65536, 65537, 1 << 31, 1 << 32, 1 << 63, 1<<64 - 1}
}

func numbers() []uint64 {
	return []uint64{0, 1, 4, 255, 256, 65535, 65536, 0x01020304, 1<<31 - 1, 1 << 31, 1<<32 - 2, 1<<32 - 1, 1 << 32, 1<<32 + 1, 1 << 40, 1 << 63, 1<<64 - 1}
}

// samples are entries that may be and others: each field at all its samples
// beside ordinary ones, and all of them drawn together.
func samples() []api.Entry {
	bases := []api.Entry{
		{},
		{Kind: 1}, {Kind: 1, Service: 2, Group: 1, Session: 3, Number: 4, Text: "hi"},
		{Kind: 1, Service: 3, Group: 7, Session: 65535, Number: 1<<32 - 1, Text: full16},
		{Kind: 2}, {Kind: 2, Service: 2}, {Kind: 2, Service: 2, Group: 5, Session: 6, Number: 7},
		{Kind: 3}, {Kind: 3, Service: 2}, {Kind: 3, Service: 2, Group: 7, Session: 65535, Number: 1<<32 - 1},
	}
	var l []api.Entry
	for _, e := range bases {
		l = append(l, e)
		for _, n := range ints(4) {
			x, y := e, e
			x.Kind, y.Service = n, n
			l = append(l, x, y)
		}
		for _, n := range ints(8) {
			x := e
			x.Group = n
			l = append(l, x)
		}
		for _, n := range sessions() {
			x := e
			x.Session = n
			l = append(l, x)
		}
		for _, n := range numbers() {
			x := e
			x.Number = n
			l = append(l, x)
		}
		for _, s := range texts() {
			x := e
			x.Text = s
			l = append(l, x)
		}
	}
	draw := rand.New(rand.NewSource(3))
	for range 20000 {
		l = append(l, drawn(draw))
	}
	return l
}

func drawn(draw *rand.Rand) api.Entry {
	b := make([]byte, draw.Intn(18))
	draw.Read(b)
	e := api.Entry{Kind: draw.Intn(6) - 1, Service: draw.Intn(6) - 1, Group: draw.Intn(10) - 1, Session: uint64(draw.Intn(65540)), Number: draw.Uint64() >> (30 + draw.Intn(34)), Text: string(b)}
	if draw.Intn(2) == 0 {
		e.Service, e.Text = 2, ""
	}
	return e
}

// allowed are the samples that may be, each one once.
func allowed() []api.Entry {
	seen := map[api.Entry]bool{}
	var l []api.Entry
	for _, e := range samples() {
		if oracle(e) && !seen[e] {
			seen[e] = true
			l = append(l, e)
		}
	}
	return l
}

// P3.1: Check.

func TestCheckTellsWhatMayBe(t *testing.T) {
	good, bad := 0, 0
	for _, e := range samples() {
		want := api.ErrEntryForm
		bad++
		if oracle(e) {
			want = api.OK
			good, bad = good+1, bad-1
		}
		if code := entry.Check(e); code != want {
			t.Errorf("Check(%+v) is %v, not %v", e, code, want)
		}
	}
	if good < 1000 || bad < 1000 {
		t.Errorf("%d samples that may be, %d others: too few", good, bad)
	}
}

func TestCheckTakesTheEdges(t *testing.T) {
	for _, e := range []api.Entry{
		{},
		{Kind: api.EntSend, Service: api.SvcFifo}, {Kind: api.EntSend, Service: api.SvcCausal},
		{Kind: api.EntSend, Service: api.SvcAgreed}, {Kind: api.EntSend, Service: api.SvcSafe},
		{Kind: api.EntJoin, Service: api.SvcAgreed}, {Kind: api.EntLeave, Service: api.SvcAgreed},
		{Kind: api.EntSend, Group: 7}, {Kind: api.EntSend, Session: 65535}, {Kind: api.EntSend, Number: 1<<32 - 1},
		{Kind: api.EntSend, Text: full16}, {Kind: api.EntSend, Text: strings.Repeat("\x00", 16)}, {Kind: api.EntSend, Text: "\x00\xff"},
		{Kind: api.EntJoin, Service: api.SvcAgreed, Group: 7, Session: 65535, Number: 1<<32 - 1},
		{Kind: api.EntLeave, Service: api.SvcAgreed, Group: 7, Session: 65535, Number: 1<<32 - 1},
	} {
		if code := entry.Check(e); code != api.OK {
			t.Errorf("Check(%+v) is %v", e, code)
		}
	}
}

// refused are entries that may not be, each one by one field alone.
func refused() []api.Entry {
	return []api.Entry{
		{Service: 1}, {Service: -1}, {Service: 2}, {Group: 1}, {Group: -1}, {Session: 1}, {Number: 1}, {Text: "a"}, {Text: "\x00"},
		{Kind: -1}, {Kind: 4}, {Kind: 4, Service: 2}, {Kind: 256}, {Kind: 257, Service: 2}, {Kind: math.MaxInt}, {Kind: math.MinInt},
		{Kind: 1, Service: -1}, {Kind: 1, Service: 4}, {Kind: 1, Service: 256}, {Kind: 1, Service: math.MaxInt}, {Kind: 1, Service: math.MinInt},
		{Kind: 1, Group: -1}, {Kind: 1, Group: 8}, {Kind: 1, Group: 256}, {Kind: 1, Group: math.MaxInt}, {Kind: 1, Group: math.MinInt},
		{Kind: 1, Session: 65536}, {Kind: 1, Session: 1<<64 - 1}, {Kind: 1, Number: 1 << 32}, {Kind: 1, Number: 1<<64 - 1},
		{Kind: 1, Text: full17}, {Kind: 1, Text: strings.Repeat("\x00", 17)}, {Kind: 1, Text: strings.Repeat("x", 1<<20)},
		{Kind: 2}, {Kind: 2, Service: 1}, {Kind: 2, Service: 3}, {Kind: 2, Service: 258}, {Kind: 2, Service: 2, Text: "a"}, {Kind: 2, Service: 2, Text: "\x00"},
		{Kind: 2, Service: 2, Group: 8}, {Kind: 2, Service: 2, Group: -1}, {Kind: 2, Service: 2, Session: 65536}, {Kind: 2, Service: 2, Number: 1 << 32},
		{Kind: 3}, {Kind: 3, Service: 1}, {Kind: 3, Service: 3}, {Kind: 3, Service: -2}, {Kind: 3, Service: 2, Text: "a"}, {Kind: 3, Service: 2, Text: full17},
		{Kind: 3, Service: 2, Group: 8}, {Kind: 3, Service: 2, Group: -1}, {Kind: 3, Service: 2, Session: 65536}, {Kind: 3, Service: 2, Number: 1 << 32},
	}
}

func TestCheckRefuses(t *testing.T) {
	for _, e := range refused() {
		if code := entry.Check(e); code != 30 {
			t.Errorf("Check(%.60q and %+v) is %v", e.Text, e.Kind, code)
		}
	}
}

// P3.1: Encode, Empty.

func TestEncodeExample(t *testing.T) {
	e := api.Entry{Kind: api.EntSend, Service: 2, Group: 1, Session: 3, Number: 4, Text: "hi"}
	want := "\x01\x02\x01\x00\x03\x00\x00\x00\x04\x02\x68\x69" + strings.Repeat("\x00", 16)
	if s, code := entry.Encode(e); s != want || code != api.OK {
		t.Errorf("Encode(%+v) is %q, %v", e, s, code)
	}
	if x, code := entry.Decode(want); x != e || code != api.OK {
		t.Errorf("Decode(%q) is %+v, %v", want, x, code)
	}
}

func TestEncodeLaysTheFields(t *testing.T) {
	for _, c := range []struct {
		e    api.Entry
		want string
	}{
		{api.Entry{}, strings.Repeat("\x00", 28)},
		{api.Entry{Kind: 1}, "\x01" + strings.Repeat("\x00", 27)},
		{api.Entry{Kind: 3, Service: 2, Group: 7, Session: 0x0102, Number: 0x03040506}, "\x03\x02\x07\x01\x02\x03\x04\x05\x06" + strings.Repeat("\x00", 19)},
		{api.Entry{Kind: 1, Service: 3, Group: 7, Session: 65535, Number: 1<<32 - 1, Text: full16}, "\x01\x03\x07\xff\xff\xff\xff\xff\xff\x10" + full16 + "\x00\x00"},
		{api.Entry{Kind: 1, Text: "\x00\xff\x00"}, "\x01\x00\x00\x00\x00\x00\x00\x00\x00\x03\x00\xff" + strings.Repeat("\x00", 16)},
	} {
		if s, code := entry.Encode(c.e); s != c.want || code != api.OK {
			t.Errorf("Encode(%+v) is %q, %v, not %q", c.e, s, code, c.want)
		}
	}
}

func TestEncodeOfSamples(t *testing.T) {
	for _, e := range samples() {
		want, wantCode := "", api.ErrEntryForm
		if oracle(e) {
			want, wantCode = bytesOf(e), api.OK
		}
		if s, code := entry.Encode(e); s != want || code != wantCode {
			t.Errorf("Encode(%+v) is %q, %v, not %q, %v", e, s, code, want, wantCode)
		}
	}
}

func TestEncodeOfWhatMayNotBeTellsNothing(t *testing.T) {
	for _, e := range refused() {
		if s, code := entry.Encode(e); s != "" || code != api.ErrEntryForm {
			t.Errorf("Encode(%.60q and %+v) is %q, %v", e.Text, e.Kind, s, code)
		}
	}
}

func TestEmpty(t *testing.T) {
	zero, code := entry.Encode(api.Entry{})
	if s := entry.Empty(); s != strings.Repeat("\x00", 28) || s != zero || code != api.OK {
		t.Errorf("Empty is %q; Encode of the zero entry %q, %v", s, zero, code)
	}
}

// P3.1: Decode.

func mustRefuse(t *testing.T, s string) {
	t.Helper()
	if e, code := entry.Decode(s); e != (api.Entry{}) || code != api.ErrEntryForm {
		t.Errorf("Decode(%.80q) of %d bytes is %+v, %v", s, len(s), e, code)
	}
}

func TestDecodeOfEmpty(t *testing.T) {
	if e, code := entry.Decode(entry.Empty()); e != (api.Entry{}) || code != api.OK {
		t.Errorf("Decode of Empty is %+v, %v", e, code)
	}
}

func TestDecodeRefusesOtherLengths(t *testing.T) {
	for _, e := range []api.Entry{{}, {Kind: 1, Service: 2, Group: 1, Session: 3, Number: 4, Text: "hi"}, {Kind: 1, Text: full16}, {Kind: 2, Service: 2}} {
		s := bytesOf(e)
		for n := range 28 {
			mustRefuse(t, s[:n])
		}
		mustRefuse(t, s+"\x00")
		mustRefuse(t, "\x00"+s)
		mustRefuse(t, s+"\x01")
		mustRefuse(t, s+s)
		mustRefuse(t, s+strings.Repeat("\x00", 256))
		mustRefuse(t, s+strings.Repeat("\x00", 1<<20))
	}
}

func TestDecodeRefusesBytesBehindTheText(t *testing.T) {
	for long := range 17 {
		s := []byte(bytesOf(api.Entry{Kind: 1, Session: 3, Text: full16[:long]}))
		for at := 10 + long; at < 28; at++ {
			for _, b := range []byte{1, 2, 'x', 128, 255} {
				x := bytes.Clone(s)
				x[at] = b
				mustRefuse(t, string(x))
			}
		}
	}
}

func TestDecodeRefusesFieldsThatMayNotBe(t *testing.T) {
	with := func(e api.Entry, at int, b byte) string {
		x := []byte(bytesOf(e))
		x[at] = b
		return string(x)
	}
	send := api.Entry{Kind: 1, Service: 2, Group: 1, Session: 3, Number: 4, Text: "hi"}
	join := api.Entry{Kind: 2, Service: 2, Group: 1, Session: 3, Number: 4}
	for b := 4; b < 256; b++ {
		mustRefuse(t, with(send, 0, byte(b)))
		mustRefuse(t, with(join, 0, byte(b)))
		mustRefuse(t, with(api.Entry{}, 0, byte(b)))
		mustRefuse(t, with(send, 1, byte(b)))
		mustRefuse(t, with(join, 1, byte(b)))
	}
	for b := 8; b < 256; b++ {
		mustRefuse(t, with(send, 2, byte(b)))
		mustRefuse(t, with(join, 2, byte(b)))
	}
	for b := 17; b < 256; b++ {
		mustRefuse(t, with(send, 9, byte(b)))
		mustRefuse(t, with(api.Entry{Kind: 1, Text: full16}, 9, byte(b)))
	}
	mustRefuse(t, with(send, 0, 0))
	mustRefuse(t, with(join, 0, 0))
	mustRefuse(t, with(send, 0, 2))
	mustRefuse(t, with(send, 0, 3))
	for _, b := range []byte{0, 1, 3} {
		mustRefuse(t, with(join, 1, b))
	}
	// A count that is too small leaves bytes behind the text; a join has none.
	mustRefuse(t, with(join, 9, 1))
	mustRefuse(t, with(send, 9, 0))
	mustRefuse(t, with(send, 9, 1))
	for at := 1; at < 28; at++ {
		mustRefuse(t, with(api.Entry{}, at, 1))
	}
}

// TestDecodeIsTheEntryWhoseBytesTheyAre holds Decode against the samples:
// each byte of an entry's bytes is turned, and the answer must be the entry
// whose bytes these are, or none.
func TestDecodeIsTheEntryWhoseBytesTheyAre(t *testing.T) {
	draw := rand.New(rand.NewSource(33))
	found := 0
	for _, e := range allowed() {
		s := []byte(bytesOf(e))
		s[draw.Intn(28)] = byte(draw.Intn(20))
		if draw.Intn(2) == 0 {
			s[draw.Intn(10)] = byte(draw.Intn(4))
		}
		x, ok := oracleDecode(string(s))
		want := api.ErrEntryForm
		if ok {
			found++
			want = api.OK
		}
		if got, code := entry.Decode(string(s)); got != x || code != want {
			t.Errorf("Decode(%q) is %+v, %v, not %+v, %v", s, got, code, x, want)
		}
	}
	if found < 100 {
		t.Errorf("%d turned ones are entries: too few", found)
	}
}

// oracleDecode reads the fields where they lie, and asks whether the entry
// that they tell may be and has these bytes.
func oracleDecode(s string) (api.Entry, bool) {
	if len(s) != 28 || s[9] > 16 {
		return api.Entry{}, false
	}
	b := []byte(s)
	e := api.Entry{Kind: int(b[0]), Service: int(b[1]), Group: int(b[2]), Session: uint64(binary.BigEndian.Uint16(b[3:])), Number: uint64(binary.BigEndian.Uint32(b[5:])), Text: s[10 : 10+int(b[9])]}
	if !oracle(e) || bytesOf(e) != s {
		return api.Entry{}, false
	}
	return e, true
}

// P3.2.

func TestEncodedIsDecodedAsItWas(t *testing.T) {
	for _, e := range allowed() {
		s, code := entry.Encode(e)
		if len(s) != api.EntryLong || code != api.OK {
			t.Fatalf("Encode(%+v) is %q, %v", e, s, code)
		}
		if x, code := entry.Decode(s); x != e || code != api.OK {
			t.Errorf("Decode of Encode(%+v) is %+v, %v", e, x, code)
		}
	}
}

func TestUnlikeEntriesHaveUnlikeBytes(t *testing.T) {
	owner := map[string]api.Entry{}
	for _, e := range allowed() {
		s, _ := entry.Encode(e)
		if other, ok := owner[s]; ok {
			t.Errorf("%+v and %+v have the bytes %q", e, other, s)
		}
		owner[s] = e
	}
}

func TestDecodedIsEncodedAsTheSameBytes(t *testing.T) {
	draw := rand.New(rand.NewSource(34))
	found := 0
	for range 20000 {
		b := make([]byte, 28)
		b[0], b[1], b[2], b[9] = byte(draw.Intn(5)), byte(draw.Intn(5)), byte(draw.Intn(9)), byte(draw.Intn(18))
		draw.Read(b[3:9])
		draw.Read(b[10:min(28, 10+int(b[9]))])
		if draw.Intn(4) == 0 {
			b[10+draw.Intn(18)] = byte(draw.Intn(2))
		}
		e, code := entry.Decode(string(b))
		if code != api.OK {
			continue
		}
		found++
		if s, code := entry.Encode(e); s != string(b) || code != api.OK {
			t.Errorf("Decode(%q) is %+v, whose bytes are %q, %v", b, e, s, code)
		}
	}
	if found < 1000 {
		t.Errorf("%d texts are entries: too few", found)
	}
}

// Rules.

func TestNoCallPanics(t *testing.T) {
	draw := rand.New(rand.NewSource(35))
	for _, e := range samples() {
		entry.Check(e)
		entry.Encode(e)
	}
	for n := range 600 {
		b := make([]byte, n)
		entry.Decode(string(b))
		draw.Read(b)
		entry.Decode(string(b))
	}
	for range 2000 {
		b := make([]byte, 28)
		draw.Read(b)
		entry.Decode(string(b))
	}
}

func TestDecodedTextIsNewMemory(t *testing.T) {
	s := bytesOf(api.Entry{Kind: 1, Text: full16})
	e, _ := entry.Decode(s)
	at, from := uintptr(unsafe.Pointer(unsafe.StringData(e.Text))), uintptr(unsafe.Pointer(unsafe.StringData(s)))
	if at >= from && at < from+uintptr(len(s)) {
		t.Error("the decoded text lies in the text that was given")
	}
}
