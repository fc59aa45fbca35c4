package packet

import (
	"strings"

	"congress/api"
	"congress/frame"
	"congress/pack"
)

// Widths of numbers' fields, in bytes: a daemon's number and a flag are
// narrow, all others wide.
const (
	narrow = 1
	wide   = 4
)

// lay and read name the fields in the order in which they lie.
func lay(p api.Packet) string {
	var out writer
	out.numbers(narrow, p.From)
	out.numbers(wide, p.Inc)
	out.id(p.Conf)
	out.numbers(wide, p.Members[:]...)
	out.numbers(wide, p.Count[:]...)
	out.id(p.Promise)
	out.numbers(wide, p.Wanted[:]...)
	out.flag(p.Ready)
	out.numbers(wide, p.Epoch, p.Round)
	out.frame(p.Newest)
	out.frame(p.Older)
	out.numbers(narrow, p.RelayOf)
	out.numbers(wide, p.RelayRound)
	out.frame(p.Relay)
	return out.String()
}

// read takes the fields off a text of fieldsLong bytes, and tells whether all
// of them are such; whether the daemons' numbers may be is not its matter.
func read(s string) (api.Packet, bool) {
	in := reader{rest: s}
	var p api.Packet
	p.From = in.number(narrow)
	p.Inc = in.number(wide)
	p.Conf = in.id()
	p.Members = in.row()
	p.Count = in.row()
	p.Promise = in.id()
	p.Wanted = in.row()
	p.Ready = in.flag()
	p.Epoch = in.number(wide)
	p.Round = in.number(wide)
	p.Newest = in.frame()
	p.Older = in.frame()
	p.RelayOf = in.number(narrow)
	p.RelayRound = in.number(wide)
	p.Relay = in.frame()
	return p, !in.spoilt
}

// writer lays fields, each one behind those that lie there.
type writer struct {
	strings.Builder
}

func (out *writer) numbers(width int, list ...uint32) {
	for _, n := range list {
		out.WriteString(pack.Put(uint64(n), width))
	}
}

func (out *writer) id(id api.Id) {
	out.numbers(wide, id.Epoch)
	out.numbers(narrow, id.Coord)
	out.numbers(wide, id.Inc)
}

func (out *writer) flag(set bool) {
	var n uint32
	if set {
		n = 1
	}
	out.numbers(narrow, n)
}

// Only packets that may be are laid, so a frame has bytes.
func (out *writer) frame(f api.Frame) {
	s, _ := frame.Encode(f)
	out.WriteString(s)
}

// reader takes fields off the beginning of a text. It is spoilt once bytes
// were no field's, and goes on, so that a packet's fields need one look at the
// end alone.
type reader struct {
	rest   string
	spoilt bool
}

func (in *reader) cut(long int) string {
	field := in.rest[:long]
	in.rest = in.rest[long:]
	return field
}

// Take is given the field alone: it copies what is behind it.
func (in *reader) number(width int) uint32 {
	n, _, _ := pack.Take(in.cut(width), width)
	return uint32(n)
}

func (in *reader) row() [api.Daemons]uint32 {
	var row [api.Daemons]uint32
	for i := range row {
		row[i] = in.number(wide)
	}
	return row
}

func (in *reader) id() api.Id {
	var id api.Id
	id.Epoch = in.number(wide)
	id.Coord = in.number(narrow)
	id.Inc = in.number(wide)
	return id
}

func (in *reader) flag() bool {
	n := in.number(narrow)
	if n > 1 {
		in.spoilt = true
	}
	return n == 1
}

func (in *reader) frame() api.Frame {
	f, code := frame.Decode(in.cut(api.FrameLong))
	if code != api.OK {
		in.spoilt = true
	}
	return f
}
