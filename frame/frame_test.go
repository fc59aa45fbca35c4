package frame_test

import (
	"encoding/binary"
	"math"
	"math/rand"
	"slices"
	"strings"
	"testing"

	"congress/api"
	"congress/frame"
)

const full16 = "1234567890123456"

var (
	send  = api.Entry{Kind: api.EntSend, Service: api.SvcAgreed, Group: 1, Session: 3, Number: 4, Text: "hi"}
	join  = api.Entry{Kind: api.EntJoin, Service: api.SvcAgreed, Group: 5, Session: 6, Number: 7}
	leave = api.Entry{Kind: api.EntLeave, Service: api.SvcAgreed, Group: 7, Session: 65535, Number: 1<<32 - 1}
	most  = api.Entry{Kind: api.EntSend, Service: api.SvcSafe, Group: 7, Session: 65535, Number: 1<<32 - 1, Text: full16}
	least = api.Entry{Kind: api.EntSend}
)

func good() []api.Entry {
	return []api.Entry{{}, send, join, leave, most, least, {Kind: 1, Service: 1, Text: "\x00\xff"}}
}

// bad are entries that may not be.
func bad() []api.Entry {
	return []api.Entry{
		{Service: 1}, {Group: 1}, {Session: 1}, {Number: 1}, {Text: "a"}, {Text: "\x00"},
		{Kind: -1}, {Kind: 4}, {Kind: 256}, {Kind: 257}, {Kind: math.MaxInt}, {Kind: math.MinInt},
		{Kind: 1, Service: 4}, {Kind: 1, Service: -1}, {Kind: 1, Group: 8}, {Kind: 1, Group: -1},
		{Kind: 1, Session: 65536}, {Kind: 1, Number: 1 << 32}, {Kind: 1, Text: full16 + "7"}, {Kind: 1, Text: strings.Repeat("x", 1<<16)},
		{Kind: 2}, {Kind: 2, Service: 3}, {Kind: 2, Service: 2, Text: "a"}, {Kind: 3}, {Kind: 3, Service: 2, Group: 8}, {Kind: 3, Service: 2, Text: "a"},
	}
}

// tenants are such that are, and wrongs such that are not.
func tenants() []int { return []int{0, 1, 2} }
func wrongs() []int {
	return []int{3, 4, 5, 6, 8, 255, 256, 258, 1 << 31, 1 << 32, 1<<32 + 1, math.MaxInt, -1, -2, -3, -256, -1 << 31, -1 << 32, math.MinInt, math.MinInt + 1}
}

// entryBytes lays an entry that may be without the program's packages.
func entryBytes(e api.Entry) string {
	b := []byte{byte(e.Kind), byte(e.Service), byte(e.Group)}
	b = binary.BigEndian.AppendUint16(b, uint16(e.Session))
	b = binary.BigEndian.AppendUint32(b, uint32(e.Number))
	b = append(b, byte(len(e.Text)))
	b = append(b, e.Text...)
	return string(append(b, make([]byte, 28-len(b))...))
}

func frameBytes(f api.Frame) string {
	return entryBytes(f[0][0]) + entryBytes(f[0][1]) +
		entryBytes(f[1][0]) + entryBytes(f[1][1]) +
		entryBytes(f[2][0]) + entryBytes(f[2][1])
}

func drawnEntry(draw *rand.Rand) api.Entry {
	group, session, number := draw.Intn(8), uint64(draw.Intn(65536)), uint64(draw.Uint32())
	switch draw.Intn(4) {
	case 0:
		return api.Entry{}
	case 1:
		b := make([]byte, draw.Intn(17))
		draw.Read(b)
		return api.Entry{Kind: 1, Service: draw.Intn(4), Group: group, Session: session, Number: number, Text: string(b)}
	}
	return api.Entry{Kind: 2 + draw.Intn(2), Service: 2, Group: group, Session: session, Number: number}
}

func drawnFrame(draw *rand.Rand) api.Frame {
	var f api.Frame
	for t := range f {
		for s := range f[t] {
			f[t][s] = drawnEntry(draw)
		}
	}
	return f
}

func full() api.Frame {
	return api.Frame{{send, join}, {leave, most}, {least, send}}
}

// goodFrames are the zero one, full ones, each kind of entry alone in each
// slot, each in each slot of a full one, and drawn ones.
func goodFrames() []api.Frame {
	l := []api.Frame{{}, full(), {{send, send}, {send, send}, {send, send}}, {{}, {send, join}, {}}}
	for _, e := range good() {
		for t := range 3 {
			for s := range 2 {
				alone, among := api.Frame{}, full()
				alone[t][s], among[t][s] = e, e
				l = append(l, alone, among)
			}
		}
	}
	draw := rand.New(rand.NewSource(4))
	for range 2000 {
		l = append(l, drawnFrame(draw))
	}
	return l
}

// badFrames are such with an entry that may not be in each slot: alone, in a
// full frame, and with one ahead of it or behind it that may not be either.
func badFrames() []api.Frame {
	var l []api.Frame
	for _, e := range bad() {
		for t := range 3 {
			for s := range 2 {
				alone, among, two := api.Frame{}, full(), full()
				alone[t][s], among[t][s] = e, e
				two[t][s], two[2-t][1-s] = e, e
				l = append(l, alone, among, two)
			}
		}
	}
	return l
}

// P4.1: Check.

func TestCheckTakesFramesThatMayBe(t *testing.T) {
	for _, f := range goodFrames() {
		if code := frame.Check(f); code != api.OK {
			t.Errorf("Check(%+v) is %v", f, code)
		}
	}
}

func TestCheckRefusesAnEntryThatMayNotBe(t *testing.T) {
	for _, f := range badFrames() {
		if code := frame.Check(f); code != 30 {
			t.Errorf("Check(%.200q) is %v", f[0][0].Text, code)
		}
	}
}

// P4.1: Encode.

func TestEncodeOfTheZeroFrame(t *testing.T) {
	want := strings.Repeat("\x00", 168)
	if s, code := frame.Encode(api.Frame{}); s != want || code != api.OK {
		t.Errorf("Encode of the zero frame is %q, %v", s, code)
	}
	if f, code := frame.Decode(want); f != (api.Frame{}) || code != api.OK {
		t.Errorf("Decode of 168 bytes 0 is %+v, %v", f, code)
	}
}

func TestEncodeOfOneEntryOfTenantOne(t *testing.T) {
	f := frame.With(api.Frame{}, 1, []api.Entry{send})
	want := strings.Repeat("\x00", 56) + "\x01\x02\x01\x00\x03\x00\x00\x00\x04\x02\x68\x69" + strings.Repeat("\x00", 16) + strings.Repeat("\x00", 84)
	if s, code := frame.Encode(f); s != want || code != api.OK {
		t.Errorf("Encode is %q, %v, not %q", s, code, want)
	}
}

func TestEncodeLaysLaneByLaneSlotBySlot(t *testing.T) {
	for _, f := range goodFrames() {
		if s, code := frame.Encode(f); s != frameBytes(f) || code != api.OK {
			t.Errorf("Encode(%+v) is %q, %v, not %q", f, s, code, frameBytes(f))
		}
	}
}

func TestEncodeOfAnEntryThatMayNotBeTellsNothing(t *testing.T) {
	for _, f := range badFrames() {
		if s, code := frame.Encode(f); s != "" || code != api.ErrEntryForm {
			t.Errorf("Encode is %q, %v", s, code)
		}
	}
}

// P4.1: Decode.

func mustRefuse(t *testing.T, s string, want api.Errno) {
	t.Helper()
	if f, code := frame.Decode(s); f != (api.Frame{}) || code != want {
		t.Errorf("Decode(%.200q) of %d bytes is %+v, %v, not %v", s, len(s), f, code, want)
	}
}

func TestDecodeIsTheFrame(t *testing.T) {
	for _, f := range goodFrames() {
		if g, code := frame.Decode(frameBytes(f)); g != f || code != api.OK {
			t.Errorf("Decode(%q) is %+v, %v, not %+v", frameBytes(f), g, code, f)
		}
	}
}

func TestDecodeRefusesOtherLengths(t *testing.T) {
	for _, f := range []api.Frame{{}, full()} {
		s := frameBytes(f)
		for n := range 168 {
			mustRefuse(t, s[:n], 40)
			mustRefuse(t, s[168-n:], 40)
		}
		for _, n := range []int{1, 2, 27, 28, 56, 84, 88, 168, 256, 1 << 16, 1<<16 + 168} {
			mustRefuse(t, s+strings.Repeat("\x00", n), 40)
			mustRefuse(t, strings.Repeat("\x00", n)+s, 40)
		}
		mustRefuse(t, s+s, 40)
	}
	mustRefuse(t, "", 40)
}

// slotBytes are 28 bytes that are no entry's.
func slotBytes() []string {
	with := func(e api.Entry, at int, b byte) string {
		x := []byte(entryBytes(e))
		x[at] = b
		return string(x)
	}
	return []string{
		strings.Repeat("\xff", 28), strings.Repeat("\x01", 28), strings.Repeat("\x00", 27) + "\x01", "\x00\x01" + strings.Repeat("\x00", 26),
		with(send, 0, 0), with(send, 0, 2), with(send, 0, 4), with(send, 0, 255), with(send, 1, 4), with(send, 2, 8), with(send, 9, 1), with(send, 9, 17),
		with(send, 12, 1), with(send, 26, 1), with(send, 27, 1), with(most, 9, 15), with(most, 26, 1),
		with(join, 1, 3), with(join, 9, 1), with(join, 10, 1), with(leave, 1, 0), with(leave, 0, 4),
	}
}

func TestDecodeRefusesASlotThatIsNoEntry(t *testing.T) {
	for _, x := range slotBytes() {
		for _, f := range []api.Frame{{}, full()} {
			for slot := range 6 {
				s := frameBytes(f)
				mustRefuse(t, s[:28*slot]+x+s[28*slot+28:], 30)
			}
		}
	}
	mustRefuse(t, strings.Repeat("\xff", 168), 30)
}

func TestDecodeTellsTheLengthFirst(t *testing.T) {
	for _, n := range []int{1, 28, 56, 140, 167, 169, 196, 336} {
		mustRefuse(t, strings.Repeat("\xff", n), api.ErrFrameLong)
	}
	mustRefuse(t, "\x09"+frameBytes(full()), api.ErrFrameLong)
	mustRefuse(t, "\x09"+frameBytes(full())[2:], api.ErrFrameLong)
}

// P4.2: Lane.

func mustBe(t *testing.T, got, want []api.Entry) {
	t.Helper()
	if !slices.Equal(got, want) {
		t.Errorf("the lane is %+v, not %+v", got, want)
	}
}

func TestLaneTellsTheEntriesInOrder(t *testing.T) {
	f := api.Frame{{send, join}, {{}, leave}, {most, {}}}
	mustBe(t, frame.Lane(f, 0), []api.Entry{send, join})
	mustBe(t, frame.Lane(f, 1), []api.Entry{leave})
	mustBe(t, frame.Lane(f, 2), []api.Entry{most})
	for n := range 3 {
		mustBe(t, frame.Lane(api.Frame{}, n), nil)
	}
	mustBe(t, frame.Lane(api.Frame{{send, send}}, 0), []api.Entry{send, send})
}

func TestLaneOfFrames(t *testing.T) {
	for _, f := range append(goodFrames(), badFrames()...) {
		for _, n := range tenants() {
			var want []api.Entry
			for s := range 2 {
				if f[n][s] != (api.Entry{}) {
					want = append(want, f[n][s])
				}
			}
			mustBe(t, frame.Lane(f, n), want)
		}
	}
}

// A lane's entries that may not be are not the zero one: they are told.
func TestLaneTellsEntriesThatMayNotBe(t *testing.T) {
	for _, e := range bad() {
		for n := range 3 {
			var f api.Frame
			f[n] = [2]api.Entry{{}, e}
			mustBe(t, frame.Lane(f, n), []api.Entry{e})
			f[n] = [2]api.Entry{e, send}
			mustBe(t, frame.Lane(f, n), []api.Entry{e, send})
		}
	}
}

func TestLaneOfNoSuchTenant(t *testing.T) {
	for _, n := range wrongs() {
		mustBe(t, frame.Lane(full(), n), nil)
		mustBe(t, frame.Lane(api.Frame{}, n), nil)
	}
}

func TestLaneIsTheCallersOwn(t *testing.T) {
	f := full()
	first, second := frame.Lane(f, 0), frame.Lane(f, 0)
	first[0], first[1] = most, most
	first = append(first[:1], leave, leave)
	if f != full() {
		t.Errorf("the frame is %+v", f)
	}
	mustBe(t, second, []api.Entry{send, join})
	mustBe(t, frame.Lane(f, 0), []api.Entry{send, join})
	mustBe(t, first, []api.Entry{most, leave, leave})
}

// P4.2: With.

// lists are no entry, one, two, three and many, zero ones among them, and
// such that may not be.
func lists() [][]api.Entry {
	zero := api.Entry{}
	l := [][]api.Entry{
		nil, {}, {send}, {zero}, {send, join}, {zero, send}, {send, zero}, {zero, zero}, {most, most},
		{send, join, leave}, {send, zero, join}, {zero, send, join}, {zero, zero, send}, {leave, leave, zero},
		slices.Repeat([]api.Entry{join}, 100), append(make([]api.Entry, 1000), send), append([]api.Entry{zero, leave}, make([]api.Entry, 1000)...),
	}
	for _, e := range bad() {
		l = append(l, []api.Entry{e}, []api.Entry{zero, e}, []api.Entry{e, send}, []api.Entry{send, e, e}, []api.Entry{send, join, e})
	}
	return l
}

// wantWith says of each slot what stands there.
func wantWith(f api.Frame, tenant int, l []api.Entry) api.Frame {
	var g api.Frame
	for t := range 3 {
		for s := range 2 {
			switch {
			case t != tenant:
				g[t][s] = f[t][s]
			case s < len(l):
				g[t][s] = l[s]
			}
		}
	}
	return g
}

func TestWithPutsTheFirstTwo(t *testing.T) {
	f := full()
	for _, c := range []struct {
		l    []api.Entry
		want [2]api.Entry
	}{
		{nil, [2]api.Entry{}},
		{[]api.Entry{}, [2]api.Entry{}},
		{[]api.Entry{least}, [2]api.Entry{least, {}}},
		{[]api.Entry{least, most}, [2]api.Entry{least, most}},
		{[]api.Entry{least, most, send}, [2]api.Entry{least, most}},
		{[]api.Entry{{}, most, send}, [2]api.Entry{{}, most}},
		{[]api.Entry{most, {}, send}, [2]api.Entry{most, {}}},
		{[]api.Entry{{}, {}, send}, [2]api.Entry{}},
		{[]api.Entry{{Kind: 9}, {Text: "a"}}, [2]api.Entry{{Kind: 9}, {Text: "a"}}},
	} {
		for n := range 3 {
			want := f
			want[n] = c.want
			if g := frame.With(f, n, c.l); g != want {
				t.Errorf("With of tenant %d and %+v is %+v, not %+v", n, c.l, g, want)
			}
		}
	}
}

func TestWithOfFramesAndLists(t *testing.T) {
	frames := append(goodFrames()[:100], badFrames()[:40]...)
	for _, f := range frames {
		was := f
		for _, l := range lists() {
			listWas := slices.Clone(l)
			for _, n := range tenants() {
				if g := frame.With(f, n, l); g != wantWith(f, n, l) {
					t.Fatalf("With of tenant %d and %d entries is %+v, not %+v", n, len(l), g, wantWith(f, n, l))
				}
			}
			if f != was || !slices.Equal(l, listWas) {
				t.Fatal("With changed its arguments")
			}
		}
	}
}

func TestWithOfNoSuchTenant(t *testing.T) {
	for _, n := range wrongs() {
		for _, l := range lists() {
			if g := frame.With(full(), n, l); g != full() {
				t.Errorf("With of tenant %d is %+v", n, g)
			}
			if g := frame.With(api.Frame{}, n, l); g != (api.Frame{}) {
				t.Errorf("With of tenant %d and the zero frame is %+v", n, g)
			}
		}
	}
}

func TestWithLeavesItsArguments(t *testing.T) {
	f := full()
	// A list with room behind it: nothing may be written there.
	room := []api.Entry{least, most, leave, join}
	l := room[:1]
	g := frame.With(f, 1, l)
	if f != full() || !slices.Equal(room, []api.Entry{least, most, leave, join}) {
		t.Errorf("after With the frame is %+v, the list %+v", f, room)
	}
	if g[1] != [2]api.Entry{least, {}} {
		t.Errorf("the lane is %+v: what lies behind the list was taken", g[1])
	}
	l[0] = leave
	if g[1][0] != least {
		t.Error("what With told changes with the list")
	}
	g[1][0], g[0][0] = leave, leave
	if f != full() {
		t.Error("the frame that was given changes with what With told")
	}
}

func TestLaneOfWith(t *testing.T) {
	for _, l := range lists() {
		for _, n := range tenants() {
			var want []api.Entry
			for _, e := range l[:min(2, len(l))] {
				if e != (api.Entry{}) {
					want = append(want, e)
				}
			}
			g := frame.With(full(), n, l)
			mustBe(t, frame.Lane(g, n), want)
			for _, other := range tenants() {
				if other != n {
					mustBe(t, frame.Lane(g, other), frame.Lane(full(), other))
				}
			}
		}
	}
}

// P4.3.

func TestEachFrameHasTheSameNumberOfBytes(t *testing.T) {
	for _, f := range goodFrames() {
		if s, code := frame.Encode(f); len(s) != 168 || code != api.OK {
			t.Errorf("Encode(%+v) has %d bytes, %v", f, len(s), code)
		}
	}
}

func TestALanesBytesStandAtAPlaceOfTheirOwn(t *testing.T) {
	draw := rand.New(rand.NewSource(41))
	for _, f := range goodFrames() {
		was, _ := frame.Encode(f)
		for n := range 3 {
			l := []api.Entry{drawnEntry(draw), drawnEntry(draw), drawnEntry(draw)}[:draw.Intn(4)]
			s, code := frame.Encode(frame.With(f, n, l))
			if code != api.OK || len(s) != len(was) {
				t.Fatalf("Encode is %q, %v", s, code)
			}
			if s[:56*n] != was[:56*n] || s[56*n+56:] != was[56*n+56:] {
				t.Errorf("tenant %d's %+v turns bytes outside of its lane:\n%q\n%q", n, l, was, s)
			}
			alone, _ := frame.Encode(frame.With(api.Frame{}, n, l))
			if s[56*n:56*n+56] != alone[56*n:56*n+56] {
				t.Errorf("tenant %d's bytes hang on other lanes:\n%q\n%q", n, alone, s)
			}
		}
	}
}

// What bytes stand in one lane changes nothing of what the others are decoded as.
func TestALaneIsDecodedByItsBytesAlone(t *testing.T) {
	draw := rand.New(rand.NewSource(42))
	for range 500 {
		f, g := drawnFrame(draw), drawnFrame(draw)
		for n := range 3 {
			a, b := frameBytes(f), frameBytes(g)
			want := f
			want[n] = g[n]
			if x, code := frame.Decode(a[:56*n] + b[56*n:56*n+56] + a[56*n+56:]); x != want || code != api.OK {
				t.Errorf("with tenant %d's bytes of another frame it is %+v, %v, not %+v", n, x, code, want)
			}
		}
	}
}

func TestDecodedAsItWas(t *testing.T) {
	for _, f := range goodFrames() {
		s, _ := frame.Encode(f)
		g, code := frame.Decode(s)
		if g != f || code != api.OK {
			t.Errorf("Decode of Encode(%+v) is %+v, %v", f, g, code)
		}
		if again, _ := frame.Encode(g); again != s {
			t.Errorf("Encode of Decode(%q) is %q", s, again)
		}
	}
}

// Rules.

func TestNoCallPanics(t *testing.T) {
	draw := rand.New(rand.NewSource(43))
	for n := range 400 {
		b := make([]byte, n)
		frame.Decode(string(b))
		draw.Read(b)
		frame.Decode(string(b))
	}
	for _, f := range badFrames() {
		for _, n := range append(tenants(), wrongs()...) {
			frame.Lane(f, n)
			frame.With(f, n, nil)
			frame.With(f, n, make([]api.Entry, 1000))
		}
		frame.Check(f)
		frame.Encode(f)
	}
}
