package lane_test

import (
	"fmt"
	"math/rand"
	"strings"
)

// oddInts are tenants, daemons, groups, kinds and services at the edges of their
// type and of what may be, and some that are the same as those in some of their
// bits.
var oddInts = []int{0, 1, 2, 3, 4, 7, 8, -1, -2, -8, 9, 16, 255, 256, 1 << 16, 1 << 31, -1 << 31, 1 << 32, 1<<32 + 1, leastInt, leastInt + 1, leastInt + 2, mostInt - 1, mostInt}

// oddSessions are sessions, handles and numbers of that kind.
var oddSessions = []uint64{0, 1, 2, 7, 9, 255, 256, 65534, 65535, 65536, 65537, 1<<31 - 1, 1 << 31, 1<<32 - 2, 1<<32 - 1, 1 << 32, 1<<32 + 1, 1<<63 - 1, 1 << 63, 1<<63 + 1, 1<<63 + 2, most - 1, most}

var oddRounds = []uint32{0, 1, 2, 255, 256, 1 << 16, 1<<31 - 1, 1 << 31, mostRound - 1, mostRound}

// oddRequests are requests that say nothing, or what looks like one.
var oddRequests = []string{
	"", " ", "nothing", "open ", " open", "open 1", "Open", "close", "close ", "close 09", "close -1", "mint 9", "mint 9 0", "mint 9 8", "mint 9 1 1",
	"revoke 9", "revoke 9 9 9", "join 9 8", "join 9 -1", "join  9 1", "join 9 1 ", "join 18446744073709551616 1", "leave 9", "leave 9 8",
	"send 9 1 safe hi", "send 9 8 safe =hi", "send 9 1 none =hi", "send 9 1 safe =12345678901234567", "send 9 1 =hi", "\x00", "\xff\xff", "open\n",
}

// pick is one of some.
func pick[E any](r *rand.Rand, some []E) E { return some[r.Intn(len(some))] }

// drawnInt is a small number for the most part.
func drawnInt(r *rand.Rand) int {
	if r.Intn(12) == 0 {
		return pick(r, oddInts)
	}
	return r.Intn(4)
}

func drawnSession(r *rand.Rand) uint64 {
	if r.Intn(12) == 0 {
		return pick(r, oddSessions)
	}
	return uint64(r.Intn(4))
}

func drawnRound(r *rand.Rand) uint32 {
	if r.Intn(16) == 0 {
		return pick(r, oddRounds)
	}
	return uint32(r.Intn(4))
}

func drawnName(r *rand.Rand) name { return name{drawnRound(r), drawnRound(r), drawnRound(r)} }

// drawnMembers has few daemons, or many.
func drawnMembers(r *rand.Rand) [8]uint32 {
	var m [8]uint32
	for d := range m {
		if d < 2 && r.Intn(8) > 0 || r.Intn(4) == 0 {
			m[d] = pick(r, []uint32{1, 1, 2, 1 << 31, mostRound})
		}
	}
	return m
}

func drawnCounts(r *rand.Rand) [8]uint32 {
	var c [8]uint32
	low := r.Intn(5)
	for d := range c {
		c[d] = uint32(low + r.Intn(3))
	}
	if r.Intn(10) == 0 {
		c[r.Intn(8)] = pick(r, oddRounds)
	}
	return c
}

// drawnSlip is one that may be for the most part, or nothing.
func drawnSlip(r *rand.Rand) slip {
	s := slip{joins + r.Intn(2), agreed, r.Intn(3), drawnSession(r), 0, ""}
	if r.Intn(2) == 0 {
		s = slip{sends, r.Intn(4), r.Intn(3), drawnSession(r), drawnSession(r), pick(r, []string{"", "a", "hi\x00", "\xff"})}
	}
	switch r.Intn(16) {
	case 0, 1:
		return slip{}
	case 2:
		s.kind = pick(r, oddInts)
	case 3:
		s.service = pick(r, oddInts)
	case 4:
		s.group = pick(r, oddInts)
	case 5:
		s.text = strings.Repeat("long", r.Intn(20))
	}
	return s
}

func drawnPost(r *rand.Rand) post {
	p := post{from: drawnInt(r), round: drawnRound(r)}
	for tenant := range p.slots {
		for i := range p.slots[tenant] {
			p.slots[tenant][i] = drawnSlip(r)
		}
	}
	return p
}

// some is up to as many, drawn one by one.
func some[E any](r *rand.Rand, n int, draw func(*rand.Rand) E) []E {
	var l []E
	for range r.Intn(n + 1) {
		l = append(l, draw(r))
	}
	return l
}

// drawnBox is a box to which, as a rule, no calls lead: its lists are in any order,
// and what one of them says need not fit what another one does.
func drawnBox(r *rand.Rand) box {
	b := box{
		tenant: drawnInt(r), daemon: r.Intn(2),
		draws: some(r, 4, drawnSession), used: r.Intn(5),
		last: drawnSession(r), turn: drawnSession(r), views: drawnSession(r),
		seats: some(r, 5, func(r *rand.Rand) seat { return seat{drawnSession(r), drawnSession(r)} }),
		keys: some(r, 6, func(r *rand.Rand) key {
			return key{drawnSession(r), drawnSession(r), pick(r, []int{1, 2, 3, 4, 5, 6, 7, 7, 7, 0, -1, 8, 15, leastInt, mostInt}), r.Intn(6) == 0}
		}),
		conf: drawnName(r), members: drawnMembers(r),
		control: some(r, 5, drawnSlip), waiting: some(r, 9, drawnSlip),
		queue: some(r, 8, func(r *rand.Rand) item {
			return item{spot{drawnRound(r), drawnInt(r), r.Intn(2)}, drawnSlip(r)}
		}),
		notes: some(r, 3, func(r *rand.Rand) note {
			return note{drawnSession(r), drawnRound(r), pick(r, oddRequests), drawnInt(r)}
		}),
	}
	if r.Intn(10) == 0 {
		b.daemon = pick(r, oddInts)
	}
	if r.Intn(10) == 0 {
		b.used = pick(r, oddInts)
	}
	for r.Intn(8) == 0 {
		b.keys = append(b.keys, make([]key, r.Intn(12))...)
	}
	guests := func(r *rand.Rand) guest {
		if r.Intn(3) > 0 {
			return guest{r.Intn(3), b.daemon, drawnSession(r)}
		}
		return guest{drawnInt(r), drawnInt(r), drawnSession(r)}
	}
	b.wanted, b.table = some(r, 6, guests), some(r, 8, guests)
	return b
}

// drawnRequest is one with a handle of the box's, for the most part.
func drawnRequest(r *rand.Rand, b box) string {
	handle := func() uint64 {
		if len(b.keys) > 0 && r.Intn(8) > 0 {
			return pick(r, b.keys).handle
		}
		return drawnSession(r)
	}
	switch r.Intn(24) {
	case 0, 1, 2:
		return "open"
	case 3, 4:
		return fmt.Sprintf("close %d", handle())
	case 5, 6, 7:
		return fmt.Sprintf("mint %d %d", handle(), r.Intn(7)+1)
	case 8, 9:
		return fmt.Sprintf("revoke %d %d", handle(), handle())
	case 10, 11, 12, 13:
		return fmt.Sprintf("join %d %d", handle(), r.Intn(3))
	case 14, 15, 16:
		return fmt.Sprintf("leave %d %d", handle(), r.Intn(3))
	case 17:
		return pick(r, oddRequests)
	}
	return fmt.Sprintf("send %d %d %s =%s", handle(), r.Intn(3), pick(r, serviceNames), pick(r, []string{"", "hi", "a b ", "\x00\xff", "1234567890123456"}))
}
