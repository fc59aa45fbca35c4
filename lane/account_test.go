package lane_test

import (
	"fmt"
	"math"
	"math/big"
	"reflect"
	"regexp"
	"slices"
	"strings"
)

const (
	leastInt  = math.MinInt
	mostInt   = math.MaxInt
	mostRound = math.MaxUint32
	most      = math.MaxUint64
)

// The errors, by the numbers that the document tells.
const (
	fine       = 0
	badArg     = 1
	badRight   = 160
	full       = 161
	badSession = 162
	badGroup   = 163
	badMember  = 164
	noRequest  = 210
)

// The kinds of calls, as chapter 21 says them.
const (
	opens = iota
	closes
	mints
	revokes
	asksIn
	asksOut
	says
)

// The kinds of entries and the services, as chapters 3 and 9 say them.
const (
	nothing = iota
	sends
	joins
	leaves
)

const (
	fifo = iota
	causal
	agreed
	safe
)

// The kinds of what is seen.
const (
	answers = iota
	confs
	views
	messages
)

// What capabilities give.
const (
	owns = 1
	goes = 2
	talk = 4
	all  = 7
)

// slip is an entry, told without the program's packages.
type slip struct {
	kind, service, group int
	session, number      uint64
	text                 string
}

// spot is where an entry stands.
type spot struct {
	round      uint32
	from, slot int
}

// item is an entry that waits for its delivery.
type item struct {
	spot
	slip
}

// name is a configuration's.
type name struct{ epoch, coord, inc uint32 }

// guest is a session in a group.
type guest struct {
	group, daemon int
	session       uint64
}

// seat is an open session.
type seat struct{ id, number uint64 }

// key is a capability.
type key struct {
	handle, session uint64
	give            int
	gone            bool
}

// note is a record of what was asked for.
type note struct {
	number uint64
	tick   uint32
	call   string
	code   int
}

// box is a lane, told without the program's packages.
type box struct {
	tenant, daemon   int
	draws            []uint64
	used             int
	last             uint64
	seats            []seat
	keys             []key
	wanted           []guest
	control, waiting []slip
	turn             uint64
	table            []guest
	queue            []item
	conf             name
	members          [8]uint32
	views            uint64
	notes            []note
}

// sight is what a session sees.
type sight struct {
	session        uint64
	kind, code     int
	handle, number uint64
	group          int
	conf, into     name
	from           guest
	text, view     string
}

// post is a daemon's frame.
type post struct {
	from  int
	round uint32
	slots [3][2]slip
}

// push is a list with one more behind the others; the list stays as it is.
func push[E any](l []E, x E) []E { return append(slices.Clip(l), x) }

// cut is a list without the one at a place.
func cut[E any](l []E, i int) []E { return slices.Concat(l[:i], l[i+1:]) }

// those is the ones of a list of which something holds.
func those[E any](l []E, holds func(E) bool) []E {
	var some []E
	for _, x := range l {
		if holds(x) {
			some = append(some, x)
		}
	}
	return some
}

// short tells the beginning of a list.
func short(v any) string { return fmt.Sprintf("%.600s", fmt.Sprintf("%+v", v)) }

func (b box) String() string {
	type plain box
	return short(plain(b))
}

// unlike tells in what two boxes are; an empty list is as none.
func (b box) unlike(other box) string {
	var out strings.Builder
	x, y := reflect.ValueOf(b), reflect.ValueOf(other)
	for i := range x.NumField() {
		if p, q := fmt.Sprintf("%+v", x.Field(i)), fmt.Sprintf("%+v", y.Field(i)); p != q {
			fmt.Fprintf(&out, "%s: %.400s, not %.400s; ", x.Type().Field(i).Name, p, q)
		}
	}
	return out.String()
}

func (b box) same(o box) bool {
	return b.tenant == o.tenant && b.daemon == o.daemon && b.used == o.used && b.last == o.last &&
		b.turn == o.turn && b.conf == o.conf && b.members == o.members && b.views == o.views &&
		slices.Equal(b.draws, o.draws) && slices.Equal(b.seats, o.seats) && slices.Equal(b.keys, o.keys) &&
		slices.Equal(b.wanted, o.wanted) && slices.Equal(b.control, o.control) && slices.Equal(b.waiting, o.waiting) &&
		slices.Equal(b.table, o.table) && slices.Equal(b.queue, o.queue) && slices.Equal(b.notes, o.notes)
}

// request is what a client asks for.
type request struct {
	do                   int
	handle, other        uint64
	give, group, service int
	text                 string
}

var serviceNames = []string{"fifo", "causal", "agreed", "safe"}

// forms are what requests look like; whether a handle is too great, and a text too
// long, is asked beside them.
var forms = []*regexp.Regexp{
	opens:   regexp.MustCompile(`\Aopen\z`),
	closes:  regexp.MustCompile(`\Aclose (0|[1-9][0-9]*)\z`),
	mints:   regexp.MustCompile(`\Amint (0|[1-9][0-9]*) ([1-7])\z`),
	revokes: regexp.MustCompile(`\Arevoke (0|[1-9][0-9]*) (0|[1-9][0-9]*)\z`),
	asksIn:  regexp.MustCompile(`\Ajoin (0|[1-9][0-9]*) ([0-7])\z`),
	asksOut: regexp.MustCompile(`\Aleave (0|[1-9][0-9]*) ([0-7])\z`),
	says:    regexp.MustCompile(`\Asend (0|[1-9][0-9]*) ([0-7]) (fifo|causal|agreed|safe) =((?s:.*))\z`),
}

// handleOf tells the number that digits are, where it is no greater than a handle
// may be.
func handleOf(digits string) (uint64, bool) {
	n, ok := new(big.Int).SetString(digits, 10)
	if !ok || n.BitLen() > 64 {
		return 0, false
	}
	return n.Uint64(), true
}

// parsed is the account of what chapter 21 says.
func parsed(s string) (request, bool) {
	for do, form := range forms {
		parts := form.FindStringSubmatch(s)
		if parts == nil {
			continue
		}
		a, ok, is := request{do: do}, true, true
		if do != opens {
			a.handle, ok = handleOf(parts[1])
		}
		switch do {
		case mints:
			a.give = int(parts[2][0] - '0')
		case revokes:
			a.other, is = handleOf(parts[2])
		case asksIn, asksOut:
			a.group = int(parts[2][0] - '0')
		case says:
			a.group, a.text = int(parts[2][0]-'0'), parts[4]
			is = len(a.text) <= 16
			a.service = slices.Index(serviceNames, parts[3])
		}
		return a, ok && is
	}
	return request{}, false
}

// rank is a text by whose bytes guests stand in order.
func (g guest) rank() string {
	return fmt.Sprintf("%020d %020d %020d", uint64(g.group)+1<<63, uint64(g.daemon)+1<<63, g.session)
}

// seated is guests with one at its place.
func seated(l []guest, g guest) []guest {
	at := 0
	for at < len(l) && l[at].rank() < g.rank() {
		at++
	}
	return slices.Concat(l[:at], []guest{g}, l[at:])
}

// moved is a table behind a guest's coming or going, and whether that changed it.
func moved(l []guest, g guest, comes bool) ([]guest, bool) {
	if g.group != g.group&7 || g.daemon != g.daemon&7 || g.session>>16 > 0 || slices.Contains(l, g) == comes {
		return l, false
	}
	if comes {
		return seated(l, g), true
	}
	return those(l, func(x guest) bool { return x != g }), true
}

// crowd tells who is in a group.
func crowd(l []guest, group int) string {
	s := ""
	for _, g := range l {
		if g.group == group {
			s += fmt.Sprintf("%d.%d ", g.daemon, g.session)
		}
	}
	return s
}

// asked is the account of Call.
func (b box) asked(tick uint32, s string) (box, sight) {
	then, seen := b.obeyed(s)
	if seen.code != fine {
		then, seen = b, sight{code: seen.code}
	}
	if n := len(b.notes); n > 0 {
		tick = max(tick, b.notes[n-1].tick)
	}
	then.notes = push(b.notes, note{uint64(len(b.notes) + 1), tick, s, seen.code})
	return then, seen
}

// obeyed is the box behind a request, but for its notes; where that fails only the
// code counts.
func (b box) obeyed(s string) (box, sight) {
	a, ok := parsed(s)
	if !ok {
		return b, sight{code: noRequest}
	}
	if a.do == opens {
		return b.opened()
	}
	need := []int{closes: owns, mints: owns, revokes: owns, asksIn: goes, asksOut: goes, says: talk}[a.do]
	k, _ := b.keyOf(a.handle)
	if k.gone || k.give&need == 0 {
		return b, sight{code: badRight}
	}
	who := guest{a.group, b.daemon, k.session}
	in := slices.Contains(b.wanted, who)
	switch a.do {
	case closes:
		return b.closed(k.session)
	case mints:
		then, handle, code := b.granted(k.session, a.give)
		return then, sight{session: k.session, handle: handle, code: code}
	case revokes:
		return b.revoked(k.session, a.other)
	case asksIn:
		if in {
			return b, sight{code: badGroup}
		}
		b.wanted = seated(b.wanted, who)
		return b.steered(joins, leaves, who), sight{session: k.session, group: a.group}
	case asksOut:
		if !in {
			return b, sight{code: badGroup}
		}
		return b.left(who), sight{session: k.session, group: a.group}
	}
	if !in {
		return b, sight{code: badMember}
	}
	return b.said(k.session, a)
}

// keyOf is the first key of a handle; a key that gives nothing, if there is none.
func (b box) keyOf(handle uint64) (key, bool) {
	for _, k := range b.keys {
		if k.handle == handle {
			return k, true
		}
	}
	return key{}, false
}

func (b box) opened() (box, sight) {
	if len(b.seats) > 3 || b.last > 65534 {
		return b, sight{code: full}
	}
	b.last++
	b.seats = push(b.seats, seat{id: b.last})
	b, handle, code := b.granted(b.last, all)
	return b, sight{session: b.last, number: b.last, handle: handle, code: code}
}

// next is the next handle.
func (b box) next() uint64 {
	for i, draw := range b.draws {
		if i == b.used {
			return draw
		}
	}
	return uint64(b.used) ^ 1<<63
}

func (b box) granted(session uint64, give int) (box, uint64, int) {
	handle := b.next()
	if _, had := b.keyOf(handle); had || handle == 0 {
		return b, 0, badArg
	}
	if len(b.keys) > 15 {
		return b, 0, full
	}
	b.used++
	b.keys = push(b.keys, key{handle: handle, session: session, give: give})
	return b, handle, fine
}

func (b box) closed(session uint64) (box, sight) {
	at := slices.IndexFunc(b.seats, func(s seat) bool { return s.id == session })
	if at < 0 {
		return b, sight{code: badSession}
	}
	b.seats = cut(b.seats, at)
	var groups []int
	for _, g := range b.wanted {
		if g.daemon == b.daemon && g.session == session && !slices.Contains(groups, g.group) {
			groups = append(groups, g.group)
		}
	}
	for _, group := range groups {
		b = b.left(guest{group, b.daemon, session})
	}
	b.keys = those(b.keys, func(k key) bool { return k.session != session })
	b.waiting = those(b.waiting, func(s slip) bool { return s.session != session })
	return b, sight{session: session}
}

func (b box) revoked(session, other uint64) (box, sight) {
	k, had := b.keyOf(other)
	if !had || k.gone || k.session != session {
		return b, sight{code: badRight}
	}
	at := slices.Index(b.keys, k)
	k.gone = true
	b.keys = slices.Concat(b.keys[:at], []key{k}, b.keys[at+1:])
	return b, sight{session: session}
}

// left is the account of asking to leave.
func (b box) left(who guest) box {
	b.wanted = those(b.wanted, func(g guest) bool { return g != who })
	return b.steered(leaves, joins, who)
}

// steered is the box without the first unsent slip of the contrary kind, or with
// one of this kind.
func (b box) steered(kind, contrary int, who guest) box {
	for i, s := range b.control {
		if s.kind == contrary && s.group == who.group && s.session == who.session {
			b.control = cut(b.control, i)
			return b
		}
	}
	b.control = push(b.control, slip{kind: kind, service: agreed, group: who.group, session: who.session})
	return b
}

func (b box) said(session uint64, a request) (box, sight) {
	if len(b.waiting) > 7 {
		return b, sight{code: full}
	}
	at := slices.IndexFunc(b.seats, func(s seat) bool { return s.id == session })
	if at < 0 || b.seats[at].number > 1<<32-2 {
		return b, sight{code: badSession}
	}
	n := b.seats[at].number + 1
	b.seats = slices.Concat(b.seats[:at], []seat{{session, n}}, b.seats[at+1:])
	b.waiting = push(b.waiting, slip{sends, a.service, a.group, session, n, a.text})
	return b, sight{session: session, number: n, group: a.group}
}

// emitted is the account of Emit.
func (b box) emitted() (box, []slip) {
	var sent []slip
	for len(sent) < 2 && len(b.control) > 0 {
		sent, b.control = append(sent, b.control[0]), b.control[1:]
	}
	for len(sent) < 2 && len(b.waiting) > 0 {
		// Whose turn it is comes first, if sessions are counted from the one
		// behind the last one's.
		at := 0
		for i, s := range b.waiting {
			if s.session-(b.turn+1) < b.waiting[at].session-(b.turn+1) {
				at = i
			}
		}
		sent, b.turn = append(sent, b.waiting[at]), b.waiting[at].session
		b.waiting = cut(b.waiting, at)
	}
	return b, sent
}

// rank puts spots in order: below 0, if s is ahead of the other one.
func (s spot) rank(other spot) int {
	switch {
	case s == other:
		return 0
	case s.round != other.round:
		return int(int64(s.round) - int64(other.round))
	case s.from < other.from, s.from == other.from && s.slot < other.slot:
		return -1
	}
	return 1
}

// ordered tells whether a slip is.
func (s slip) ordered() bool {
	return s.kind != sends || s.service == agreed || s.service == safe
}

// ready is the account of what chapter 9 says of an item.
func (b box) ready(x item, counts [8]uint32) bool {
	if x.from != x.from&7 || b.members[x.from] == 0 || x.round == 0 || counts[x.from] < x.round {
		return false
	}
	have := func(r uint64, below int) bool {
		for d, inc := range b.members[:below] {
			if inc > 0 && uint64(counts[d]) < r {
				return false
			}
		}
		return true
	}
	r, service := uint64(x.round), x.service
	if x.kind != sends {
		service = agreed
	}
	switch service {
	case fifo:
		return true
	case causal:
		return have(r-1, 8)
	case agreed:
		return have(r-1, 8) && have(r, x.from)
	case safe:
		return have(r+1, 8)
	}
	return false
}

// laid is a queue with what a frame holds for the box's tenant.
func (b box) laid(p post) []item {
	var slips []slip
	if b.tenant >= 0 && b.tenant < 3 {
		slips = those(p.slots[b.tenant][:], func(s slip) bool { return s != slip{} })
	}
	queue := b.queue
	for i, s := range slips {
		x := item{spot{p.round, p.from, i}, s}
		if slices.ContainsFunc(b.queue, func(y item) bool { return y.spot == x.spot }) {
			continue
		}
		at := slices.IndexFunc(queue, func(y item) bool { return x.rank(y.spot) < 0 })
		if at < 0 {
			at = len(queue)
		}
		queue = slices.Concat(queue[:at], []item{x}, queue[at:])
	}
	return queue
}

// took is the account of Take.
func (b box) took(p post, counts [8]uint32) (box, []sight) {
	come, wait := b.parted(b.laid(p), counts)
	b.queue = wait
	return b.delivered(come, name{})
}

// parted is which of a queue come, and which wait.
func (b box) parted(queue []item, counts [8]uint32) ([]item, []item) {
	var come, wait []item
	for _, x := range queue {
		held := slices.ContainsFunc(wait, func(y item) bool { return y.ordered() })
		if b.ready(x, counts) && !(held && x.ordered()) {
			come = append(come, x)
		} else {
			wait = append(wait, x)
		}
	}
	return come, wait
}

// delivered is the account of what is done with items that come.
func (b box) delivered(come []item, into name) (box, []sight) {
	var seen []sight
	for _, x := range come {
		what := sight{group: x.group, conf: b.conf, into: into}
		who := guest{x.group, x.from, x.session}
		switch x.kind {
		case sends:
			what.kind, what.number, what.from, what.text = messages, x.number, who, x.text
		case joins, leaves:
			table, changed := moved(b.table, who, x.kind == joins)
			if !changed {
				continue
			}
			b.table, b.views = table, b.views+1
			what.kind, what.number, what.view = views, b.views, crowd(table, x.group)
		default:
			continue
		}
		for _, g := range b.table {
			if g.group == x.group && g.daemon == b.daemon && b.isOpen(g.session) {
				what.session = g.session
				seen = append(seen, what)
			}
		}
	}
	return b, seen
}

func (b box) isOpen(session uint64) bool {
	return slices.ContainsFunc(b.seats, func(s seat) bool { return s.id == session })
}

// installed is the account of Install.
func (b box) installed(conf name, members [8]uint32) (box, []sight) {
	b, seen := b.delivered(b.queue, conf)
	b.queue, b.table, b.control, b.views = nil, nil, nil, 0
	b.conf, b.members = conf, members
	for _, g := range b.wanted {
		b.control = append(b.control, slip{joins, agreed, g.group, g.session, 0, ""})
	}
	for _, s := range b.seats {
		seen = append(seen, sight{session: s.id, kind: confs, conf: conf})
	}
	return b, seen
}
