package packet_test

import (
	"encoding/binary"
	"hash/crc32"
	"math"
	"math/rand"
	"slices"
	"strings"
	"testing"
	"unsafe"

	"congress/api"
	"congress/packet"
)

const (
	full16 = "1234567890123456"
	most32 = math.MaxUint32
)

var (
	send  = api.Entry{Kind: api.EntSend, Service: api.SvcAgreed, Group: 1, Session: 3, Number: 4, Text: "hi"}
	join  = api.Entry{Kind: api.EntJoin, Service: api.SvcAgreed, Group: 5, Session: 6, Number: 7}
	leave = api.Entry{Kind: api.EntLeave, Service: api.SvcAgreed, Group: 7, Session: 65535, Number: most32}
	most  = api.Entry{Kind: api.EntSend, Service: api.SvcSafe, Group: 7, Session: 65535, Number: most32, Text: full16}
	least = api.Entry{Kind: api.EntSend}
)

// good are entries that may be, bad such that may not.
func good() []api.Entry {
	return []api.Entry{{}, send, join, leave, most, least, {Kind: 1, Service: 1, Text: "\x00\xff"}}
}

func bad() []api.Entry {
	return []api.Entry{
		{Service: 1}, {Group: 1}, {Session: 1}, {Number: 1}, {Text: "a"}, {Text: "\x00"},
		{Kind: -1}, {Kind: 4}, {Kind: 256}, {Kind: 257}, {Kind: math.MaxInt}, {Kind: math.MinInt},
		{Kind: 1, Service: 4}, {Kind: 1, Service: -1}, {Kind: 1, Group: 8}, {Kind: 1, Group: -1},
		{Kind: 1, Session: 65536}, {Kind: 1, Number: 1 << 32}, {Kind: 1, Text: full16 + "7"}, {Kind: 1, Text: strings.Repeat("x", 1<<16)},
		{Kind: 2}, {Kind: 2, Service: 3}, {Kind: 2, Service: 2, Text: "a"}, {Kind: 3}, {Kind: 3, Service: 2, Group: 8}, {Kind: 3, Service: 2, Text: "a"},
	}
}

// field is one of a packet's numbers: where its bytes stand, how many they
// are, and where it stands in the packet.
type field struct {
	name      string
	at, width int
	of        func(p *api.Packet) *uint32
}

// daemonFields are those that are below 8, with the places of their bytes
// counted by hand from the chapter.
func daemonFields() []field {
	return []field{
		{"From", 0, 1, func(p *api.Packet) *uint32 { return &p.From }},
		{"Conf.Coord", 9, 1, func(p *api.Packet) *uint32 { return &p.Conf.Coord }},
		{"Promise.Coord", 82, 1, func(p *api.Packet) *uint32 { return &p.Promise.Coord }},
		{"RelayOf", 464, 1, func(p *api.Packet) *uint32 { return &p.RelayOf }},
	}
}

func wideFields() []field {
	l := []field{
		{"Inc", 1, 4, func(p *api.Packet) *uint32 { return &p.Inc }},
		{"Conf.Epoch", 5, 4, func(p *api.Packet) *uint32 { return &p.Conf.Epoch }},
		{"Conf.Inc", 10, 4, func(p *api.Packet) *uint32 { return &p.Conf.Inc }},
		{"Promise.Epoch", 78, 4, func(p *api.Packet) *uint32 { return &p.Promise.Epoch }},
		{"Promise.Inc", 83, 4, func(p *api.Packet) *uint32 { return &p.Promise.Inc }},
		{"Epoch", 120, 4, func(p *api.Packet) *uint32 { return &p.Epoch }},
		{"Round", 124, 4, func(p *api.Packet) *uint32 { return &p.Round }},
		{"RelayRound", 465, 4, func(p *api.Packet) *uint32 { return &p.RelayRound }},
	}
	for i := range 8 {
		l = append(l,
			field{"Members", 14 + 4*i, 4, func(p *api.Packet) *uint32 { return &p.Members[i] }},
			field{"Count", 46 + 4*i, 4, func(p *api.Packet) *uint32 { return &p.Count[i] }},
			field{"Wanted", 87 + 4*i, 4, func(p *api.Packet) *uint32 { return &p.Wanted[i] }})
	}
	return l
}

const readyAt = 119

// part is one of a packet's three frames: where its bytes begin, and where it
// stands in the packet.
type part struct {
	at int
	of func(p *api.Packet) *api.Frame
}

func parts() []part {
	return []part{
		{128, func(p *api.Packet) *api.Frame { return &p.Newest }},
		{296, func(p *api.Packet) *api.Frame { return &p.Older }},
		{469, func(p *api.Packet) *api.Frame { return &p.Relay }},
	}
}

// full is a packet in which every field is set, each unlike the others.
func full() api.Packet {
	return api.Packet{
		From: 3, Inc: 0x01020304,
		Conf:    api.Id{Epoch: 0x11121314, Coord: 5, Inc: 0x21222324},
		Members: api.Members{1, 2, 3, 4, 5, 6, 0x7fffffff, 0x80000000},
		Count:   api.Counts{0x101, 0x202, 0x303, 0x404, 0x505, 0x606, 0x707, 0x808},
		Promise: api.Id{Epoch: 0x31323334, Coord: 6, Inc: 0x41424344},
		Wanted:  api.Members{0x10000, 0x20000, 0x30000, 0x40000, 0x50000, 0x60000, 0x70000, 0x80000},
		Ready:   true, Epoch: 0x51525354, Round: 0x61626364,
		Newest:  api.Frame{{send, join}, {leave, most}, {least, send}},
		Older:   api.Frame{{join, leave}, {most, least}, {send, join}},
		RelayOf: 7, RelayRound: 0x71727374,
		Relay: api.Frame{{most, most}, {send, leave}, {join, least}},
	}
}

// entryBytes, packetBytes and seal lay what may be without the program's
// packages.
func entryBytes(e api.Entry) string {
	b := []byte{byte(e.Kind), byte(e.Service), byte(e.Group)}
	b = binary.BigEndian.AppendUint16(b, uint16(e.Session))
	b = binary.BigEndian.AppendUint32(b, uint32(e.Number))
	b = append(b, byte(len(e.Text)))
	b = append(b, e.Text...)
	return string(append(b, make([]byte, 28-len(b))...))
}

func seal(s string) string {
	return string(binary.LittleEndian.AppendUint32([]byte(s), crc32.ChecksumIEEE([]byte(s))))
}

func packetBytes(p api.Packet) string {
	b := make([]byte, 637)
	for _, f := range daemonFields() {
		b[f.at] = byte(*f.of(&p))
	}
	for _, f := range wideFields() {
		binary.BigEndian.PutUint32(b[f.at:], *f.of(&p))
	}
	if p.Ready {
		b[readyAt] = 1
	}
	for _, f := range parts() {
		for t := range 3 {
			for s := range 2 {
				copy(b[f.at+56*t+28*s:], entryBytes(f.of(&p)[t][s]))
			}
		}
	}
	return seal(string(b))
}

func edgeNumbers() []uint32 {
	return []uint32{0, 1, 7, 8, 255, 256, 65535, 65536, 1<<24 - 1, 1 << 24, 0x01020304, 1<<31 - 1, 1 << 31, most32 - 1, most32}
}

// fromEach is the zero packet and the full one, each changed in one place.
func fromEach(change func(p *api.Packet)) []api.Packet {
	alone, among := api.Packet{}, full()
	change(&alone)
	change(&among)
	return []api.Packet{alone, among}
}

// goodPackets are the zero one, the full one, such with each field at its
// edges, alone and with the others set, such with each kind of entry in each
// slot of each frame, and drawn ones.
func goodPackets() []api.Packet {
	l := fromEach(func(p *api.Packet) {})
	for _, f := range daemonFields() {
		for n := range uint32(8) {
			l = append(l, fromEach(func(p *api.Packet) { *f.of(p) = n })...)
		}
	}
	for _, f := range wideFields() {
		for _, n := range edgeNumbers() {
			l = append(l, fromEach(func(p *api.Packet) { *f.of(p) = n })...)
		}
	}
	for _, ready := range []bool{false, true} {
		l = append(l, fromEach(func(p *api.Packet) { p.Ready = ready })...)
	}
	for _, e := range good() {
		l = append(l, withEntry(e)...)
	}
	for _, f := range parts() {
		l = append(l, fromEach(func(p *api.Packet) { *f.of(p) = api.Frame{} })...)
		l = append(l, fromEach(func(p *api.Packet) { *f.of(p) = full().Newest })...)
	}
	draw := rand.New(rand.NewSource(5))
	for range 500 {
		l = append(l, drawnPacket(draw))
	}
	return l
}

// withEntry are packets with an entry in each slot of each frame.
func withEntry(e api.Entry) []api.Packet {
	var l []api.Packet
	for _, f := range parts() {
		for t := range 3 {
			for s := range 2 {
				l = append(l, fromEach(func(p *api.Packet) { f.of(p)[t][s] = e })...)
			}
		}
	}
	return l
}

func drawnEntry(draw *rand.Rand) api.Entry {
	group, session, number := draw.Intn(8), uint64(draw.Intn(65536)), uint64(draw.Uint32())
	switch draw.Intn(4) {
	case 0:
		return api.Entry{}
	case 1:
		b := make([]byte, draw.Intn(17))
		draw.Read(b)
		return api.Entry{Kind: 1, Service: draw.Intn(4), Group: group, Session: session, Number: number, Text: string(b)}
	}
	return api.Entry{Kind: 2 + draw.Intn(2), Service: 2, Group: group, Session: session, Number: number}
}

func drawnPacket(draw *rand.Rand) api.Packet {
	p := api.Packet{Ready: draw.Intn(2) == 1}
	for _, f := range daemonFields() {
		*f.of(&p) = uint32(draw.Intn(8))
	}
	for _, f := range wideFields() {
		*f.of(&p) = draw.Uint32() >> draw.Intn(32)
	}
	for _, f := range parts() {
		for t := range 3 {
			for s := range 2 {
				f.of(&p)[t][s] = drawnEntry(draw)
			}
		}
	}
	return p
}

// badPackets are such that may not be, by each reason alone and by two.
func badPackets() []api.Packet {
	var l []api.Packet
	for _, f := range daemonFields() {
		for _, n := range []uint32{8, 9, 15, 16, 255, 256, 257, 263, 1 << 16, 1 << 24, 1 << 31, 1<<31 + 7, most32 - 7, most32} {
			l = append(l, fromEach(func(p *api.Packet) { *f.of(p) = n })...)
			l = append(l, fromEach(func(p *api.Packet) { *f.of(p), p.Older[1][1] = n, api.Entry{Kind: 9} })...)
		}
	}
	for _, e := range bad() {
		l = append(l, withEntry(e)...)
	}
	return append(l, fromEach(func(p *api.Packet) { p.From, p.RelayOf, p.Conf.Coord, p.Promise.Coord = 8, 8, 8, 8 })...)
}

// P5.1: Check.

func TestCheckTakesPacketsThatMayBe(t *testing.T) {
	for _, p := range goodPackets() {
		if code := packet.Check(p); code != api.OK {
			t.Fatalf("Check(%#v) is %v", p, code)
		}
	}
}

func TestCheckRefusesPacketsThatMayNotBe(t *testing.T) {
	for _, p := range badPackets() {
		if code := packet.Check(p); code != 52 {
			t.Errorf("Check with the daemons %d is %v", daemonsOf(p), code)
		}
	}
}

// daemonsOf tells a packet by what is short: its texts may be long.
func daemonsOf(p api.Packet) []uint32 {
	return []uint32{p.From, p.Conf.Coord, p.Promise.Coord, p.RelayOf}
}

func TestDaemonsNumbersAtTheirEdge(t *testing.T) {
	for _, f := range daemonFields() {
		for n, want := range map[uint32]api.Errno{0: api.OK, 7: api.OK, 8: api.ErrPacketForm, most32: api.ErrPacketForm} {
			for _, p := range fromEach(func(p *api.Packet) { *f.of(p) = n }) {
				if code := packet.Check(p); code != want {
					t.Errorf("Check with %s %d is %v, not %v", f.name, n, code, want)
				}
				s, code := packet.Encode(p)
				if code != want || (s == "") != (want != api.OK) {
					t.Errorf("Encode with %s %d is %d bytes, %v, not %v", f.name, n, len(s), code, want)
				}
			}
		}
	}
}

// P5.1: Encode.

func TestEncodeOfTheZeroPacket(t *testing.T) {
	want := strings.Repeat("\x00", 637) + "\xec\x36\x85\xd6"
	if s := seal(want[:637]); s != want {
		t.Fatalf("the sum of 637 bytes 0 is %q", s[637:])
	}
	if s, code := packet.Encode(api.Packet{}); s != want || code != api.OK {
		t.Fatalf("Encode of the zero packet is %q, %v", s, code)
	}
	if p, code := packet.Decode(want); p != (api.Packet{}) || code != api.OK {
		t.Fatalf("Decode of 637 bytes 0 and their sum is %#v, %v", p, code)
	}
}

// The full packet's bytes, written out in the chapter's order.
func TestEncodeOfTheFullPacket(t *testing.T) {
	p := full()
	want := "\x03" + "\x01\x02\x03\x04" + "\x11\x12\x13\x14\x05\x21\x22\x23\x24" +
		"\x00\x00\x00\x01\x00\x00\x00\x02\x00\x00\x00\x03\x00\x00\x00\x04\x00\x00\x00\x05\x00\x00\x00\x06\x7f\xff\xff\xff\x80\x00\x00\x00" +
		"\x00\x00\x01\x01\x00\x00\x02\x02\x00\x00\x03\x03\x00\x00\x04\x04\x00\x00\x05\x05\x00\x00\x06\x06\x00\x00\x07\x07\x00\x00\x08\x08" +
		"\x31\x32\x33\x34\x06\x41\x42\x43\x44" +
		"\x00\x01\x00\x00\x00\x02\x00\x00\x00\x03\x00\x00\x00\x04\x00\x00\x00\x05\x00\x00\x00\x06\x00\x00\x00\x07\x00\x00\x00\x08\x00\x00" +
		"\x01" + "\x51\x52\x53\x54" + "\x61\x62\x63\x64"
	for _, e := range []api.Entry{send, join, leave, most, least, send, join, leave, most, least, send, join} {
		want += entryBytes(e)
	}
	want += "\x07" + "\x71\x72\x73\x74"
	for _, e := range []api.Entry{most, most, send, leave, join, least} {
		want += entryBytes(e)
	}
	if s, code := packet.Encode(p); s != seal(want) || code != api.OK {
		t.Fatalf("Encode is\n%q, %v, not\n%q", s, code, seal(want))
	}
}

func TestEncodeLaysEachFieldAtItsPlace(t *testing.T) {
	for _, p := range goodPackets() {
		if s, code := packet.Encode(p); s != packetBytes(p) || code != api.OK {
			t.Fatalf("Encode(%#v) is\n%q, %v, not\n%q", p, s, code, packetBytes(p))
		}
	}
}

// Each field alone turns its own bytes, and the sum's, and no others.
func TestEncodeOfOneFieldAlone(t *testing.T) {
	zero, _ := packet.Encode(api.Packet{})
	for _, f := range append(wideFields(), daemonFields()...) {
		var p api.Packet
		*f.of(&p) = 7
		s, code := packet.Encode(p)
		want := zero[:f.at+f.width-1] + "\x07" + zero[f.at+f.width:637]
		if code != api.OK || s != seal(want) {
			t.Fatalf("Encode with %s is %q, %v", f.name, s, code)
		}
	}
	s, _ := packet.Encode(api.Packet{Ready: true})
	if s != seal(zero[:119]+"\x01"+zero[120:637]) {
		t.Fatalf("Encode with Ready is %q", s)
	}
}

func TestEncodeOfAPacketThatMayNotBeTellsNothing(t *testing.T) {
	for _, p := range badPackets() {
		if s, code := packet.Encode(p); s != "" || code != api.ErrPacketForm {
			t.Fatalf("Encode is %q, %v", s, code)
		}
	}
}

// P5.2: Decode.

func mustRefuse(t *testing.T, s string, want api.Errno) {
	t.Helper()
	if p, code := packet.Decode(s); p != (api.Packet{}) || code != want {
		t.Fatalf("Decode(%.700q) of %d bytes is %#v, %v, not %v", s, len(s), p, code, want)
	}
}

func TestDecodeIsThePacket(t *testing.T) {
	for _, p := range goodPackets() {
		if q, code := packet.Decode(packetBytes(p)); q != p || code != api.OK {
			t.Fatalf("Decode(%q) is %#v, %v, not %#v", packetBytes(p), q, code, p)
		}
	}
}

// Sealed or not, with a packet's form or not: another length is told first.
func TestDecodeRefusesOtherLengths(t *testing.T) {
	mustRefuse(t, "", 50)
	for _, p := range []api.Packet{{}, full()} {
		s := packetBytes(p)
		for n := range 641 {
			mustRefuse(t, s[:n], 50)
			mustRefuse(t, s[641-n:], 50)
			if n != 637 {
				mustRefuse(t, seal(s[:n]), 50)
			}
		}
		for _, n := range []int{1, 2, 4, 28, 168, 256, 637, 641, 1 << 16, 1<<16 + 641} {
			more := strings.Repeat("\x00", n)
			mustRefuse(t, s+more, 50)
			mustRefuse(t, more+s, 50)
			mustRefuse(t, seal(s[:637]+more), 50)
			mustRefuse(t, seal(more+s[:637]), 50)
		}
		mustRefuse(t, seal(s), 50)
		mustRefuse(t, s+s, 50)
	}
	for _, n := range []int{1, 4, 168, 637, 640, 642, 645, 1282} {
		mustRefuse(t, strings.Repeat("\xff", n), api.ErrPacketLong)
	}
}

// sumBytes are the four bytes behind a packet's fields that are not its sum.
func sumBytes(s string) []string {
	var l []string
	for i := 637; i < 641; i++ {
		for _, turn := range []byte{1, 128, 255} {
			b := []byte(s)
			b[i] ^= turn
			l = append(l, string(b[637:]))
		}
	}
	n := binary.LittleEndian.Uint32([]byte(s[637:]))
	return append(l, string(binary.BigEndian.AppendUint32(nil, n)), string(binary.LittleEndian.AppendUint32(nil, ^n)), "\x00\x00\x00\x00", "\xff\xff\xff\xff")
}

func TestDecodeRefusesAWrongSum(t *testing.T) {
	for _, p := range []api.Packet{{}, full(), {From: 7}, {Relay: full().Relay}} {
		s := packetBytes(p)
		for _, sum := range sumBytes(s) {
			mustRefuse(t, s[:637]+sum, 51)
		}
		for i := range 637 {
			mustRefuse(t, s[:i]+string([]byte{s[i] ^ 1})+s[i+1:], 51)
		}
		mustRefuse(t, s[4:]+s[:4], api.ErrPacketSum)
	}
}

// noPackets are 637 bytes that are no packet's fields.
func noPackets() []string {
	var l []string
	put := func(at int, x string) {
		for _, p := range []api.Packet{{}, full()} {
			s := packetBytes(p)
			l = append(l, s[:at]+x+s[at+len(x):637])
		}
	}
	for _, f := range daemonFields() {
		for n := 8; n < 256; n++ {
			put(f.at, string([]byte{byte(n)}))
		}
	}
	for n := 2; n < 256; n++ {
		put(readyAt, string([]byte{byte(n)}))
	}
	for _, x := range slotBytes() {
		for _, f := range parts() {
			for slot := range 6 {
				put(f.at+28*slot, x)
			}
		}
	}
	return append(l, strings.Repeat("\xff", 637), strings.Repeat("\x09", 637), strings.Repeat("\x01", 637))
}

// slotBytes are 28 bytes that are no entry's.
func slotBytes() []string {
	with := func(e api.Entry, at int, b byte) string {
		x := []byte(entryBytes(e))
		x[at] = b
		return string(x)
	}
	return []string{
		strings.Repeat("\xff", 28), strings.Repeat("\x01", 28), strings.Repeat("\x00", 27) + "\x01", "\x00\x01" + strings.Repeat("\x00", 26),
		with(send, 0, 0), with(send, 0, 2), with(send, 0, 4), with(send, 0, 255), with(send, 1, 4), with(send, 2, 8), with(send, 9, 1), with(send, 9, 17),
		with(send, 12, 1), with(send, 26, 1), with(send, 27, 1), with(most, 9, 15), with(most, 26, 1),
		with(join, 1, 3), with(join, 9, 1), with(join, 10, 1), with(leave, 1, 0), with(leave, 0, 4),
	}
}

func TestDecodeRefusesWhatIsNoPacket(t *testing.T) {
	for _, s := range noPackets() {
		mustRefuse(t, seal(s), 52)
	}
}

// What is no packet and not sealed either: the sum is told first.
func TestDecodeTellsTheSumAheadOfTheForm(t *testing.T) {
	for i, s := range noPackets() {
		sealed := seal(s)
		mustRefuse(t, sealed[:640]+string([]byte{sealed[640] ^ byte(1<<(i%8))}), api.ErrPacketSum)
	}
	mustRefuse(t, strings.Repeat("\xff", 641), api.ErrPacketSum)
}

// P5.3.

func TestAllPacketsAreOfOneLength(t *testing.T) {
	for _, p := range goodPackets() {
		if s, code := packet.Encode(p); len(s) != 641 || code != api.OK {
			t.Fatalf("Encode(%#v) has %d bytes, %v", p, len(s), code)
		}
	}
}

func TestDecodedAsItWas(t *testing.T) {
	for _, p := range goodPackets() {
		s, _ := packet.Encode(p)
		if q, code := packet.Decode(s); q != p || code != api.OK {
			t.Fatalf("Decode of Encode(%#v) is %#v, %v", p, q, code)
		}
	}
}

// Sealed texts that differ from a packet's bytes in a few places: some are a
// packet's, and those are encoded as the same bytes.
func TestWhatIsDecodedIsEncodedAsTheSameBytes(t *testing.T) {
	draw := rand.New(rand.NewSource(51))
	taken, refused := 0, 0
	for range 5000 {
		b := []byte(packetBytes(drawnPacket(draw)))
		for range 1 + draw.Intn(3) {
			b[draw.Intn(637)] = byte(draw.Intn(256) >> draw.Intn(9))
		}
		s := seal(string(b[:637]))
		p, code := packet.Decode(s)
		if code != api.OK {
			refused++
			mustRefuse(t, s, 52)
			continue
		}
		taken++
		if again, code := packet.Encode(p); again != s || code != api.OK {
			t.Fatalf("Encode of Decode(%q) is %q, %v", s, again, code)
		}
	}
	if taken < 500 || refused < 500 {
		t.Errorf("%d were taken, %d refused", taken, refused)
	}
}

// turned is a text whose four bytes from a place on are turned by a mask.
func turned(s string, at int, mask uint32) string {
	b := []byte(s)
	binary.LittleEndian.PutUint32(b[at:], binary.LittleEndian.Uint32(b[at:])^mask)
	return string(b)
}

func TestTurnedBitsAreRefused(t *testing.T) {
	draw := rand.New(rand.NewSource(52))
	fixed := []uint32{most32, 0x80000001, 0xedb88320, 0x04c11db7, 0xdb710641, 0xff, 0xff00, 0xff0000, 0xff000000}
	for _, p := range []api.Packet{{}, full(), drawnPacket(draw)} {
		s := packetBytes(p)
		for at := range 638 {
			masks := slices.Clone(fixed)
			for i := range 32 {
				masks = append(masks, 1<<i, draw.Uint32()|1<<i)
			}
			for _, mask := range masks {
				if q, code := packet.Decode(turned(s, at, mask)); q != (api.Packet{}) || code != api.ErrPacketSum {
					t.Fatalf("turned at %d by %x it is %#v, %v", at, mask, q, code)
				}
			}
		}
	}
}

// differ tells where two texts of one length do.
func differ(a, b string) []int {
	var l []int
	for i := range len(a) {
		if a[i] != b[i] {
			l = append(l, i)
		}
	}
	return l
}

func isInLanes(at, tenant int) bool {
	for _, f := range parts() {
		if at >= f.at+56*tenant && at < f.at+56*tenant+56 {
			return true
		}
	}
	return at >= 637
}

func TestATenantsLanesTurnTheirOwnBytesAlone(t *testing.T) {
	draw := rand.New(rand.NewSource(53))
	for _, p := range goodPackets() {
		was, _ := packet.Encode(p)
		for tenant := range 3 {
			q, other := p, drawnPacket(draw)
			for _, f := range parts() {
				f.of(&q)[tenant] = f.of(&other)[tenant]
			}
			s, code := packet.Encode(q)
			if code != api.OK || len(s) != len(was) {
				t.Fatalf("Encode is %q, %v", s, code)
			}
			places := differ(was, s)
			for _, at := range places {
				if !isInLanes(at, tenant) {
					t.Errorf("tenant %d's lanes turn the byte at %d", tenant, at)
				}
			}
			if (q == p) != (len(places) == 0) {
				t.Errorf("tenant %d's lanes: equal packets %v, %d bytes turned", tenant, q == p, len(places))
			}
		}
	}
}

// Each lane of each frame alone turns the 56 bytes at its place, and the sum.
func TestOneLaneTurnsItsBytesAlone(t *testing.T) {
	for _, f := range parts() {
		for tenant := range 3 {
			p := full()
			f.of(&p)[tenant] = [2]api.Entry{{Kind: 1, Text: "other"}, {}}
			was, _ := packet.Encode(full())
			s, _ := packet.Encode(p)
			at := f.at + 56*tenant
			if s[:at] != was[:at] || s[at+56:637] != was[at+56:637] || s[at:at+56] == was[at:at+56] || s[637:] == was[637:] {
				t.Errorf("the lane at %d turns bytes at %v", at, differ(was, s))
			}
		}
	}
}

// Rules.

func TestNoCallPanics(t *testing.T) {
	draw := rand.New(rand.NewSource(54))
	for n := range 1400 {
		b := make([]byte, n)
		packet.Decode(string(b))
		packet.Decode(seal(string(b)))
		draw.Read(b)
		packet.Decode(string(b))
		packet.Decode(seal(string(b)))
	}
	for range 3000 {
		b := make([]byte, 637)
		draw.Read(b)
		mustRefuse(t, seal(string(b)), 52)
	}
	packet.Decode(strings.Repeat("\xff", 1<<20))
	for _, p := range badPackets() {
		packet.Check(p)
		packet.Encode(p)
	}
}

func TestCallsAnswerTheSameAgain(t *testing.T) {
	p := full()
	first, _ := packet.Encode(p)
	packet.Encode(api.Packet{From: 8})
	packet.Decode(first[1:])
	second, _ := packet.Encode(p)
	if first != second || p != full() {
		t.Fatalf("Encode is %q, then %q", first, second)
	}
	q, _ := packet.Decode(first)
	q.Members[0], q.Newest[0][0] = 99, leave
	if again, _ := packet.Decode(first); again != full() {
		t.Fatalf("Decode is %#v the second time", again)
	}
}

// R4: texts of what is decoded lie in memory of their own.
func TestAnswersShareNoMemory(t *testing.T) {
	s := packetBytes(full())
	first, _ := packet.Decode(s)
	second, _ := packet.Decode(s)
	texts := []string{s}
	for _, p := range []api.Packet{first, second} {
		for _, f := range parts() {
			for _, lane := range f.of(&p) {
				texts = append(texts, lane[0].Text, lane[1].Text)
			}
		}
	}
	for i, a := range texts {
		for _, b := range texts[i+1:] {
			if overlap(a, b) {
				t.Fatalf("%q and %q lie in one memory", a, b)
			}
		}
	}
}

func overlap(a, b string) bool {
	begin := func(s string) uintptr { return uintptr(unsafe.Pointer(unsafe.StringData(s))) }
	return begin(a) < begin(b)+uintptr(len(b)) && begin(b) < begin(a)+uintptr(len(a))
}
