package gather_test

import (
	"math/rand"
	"slices"
	"testing"

	"congress/api"
	"congress/gather"
)

// drawnId is an Id out of few, so that there are the same ones among them.
func drawnId(r *rand.Rand) api.Id {
	return api.Id{Epoch: 1 + uint32(r.Intn(2)), Coord: uint32(r.Intn(2)), Inc: 1 + uint32(r.Intn(2))}
}

// drawnCounts is counts that are low, or at their end.
func drawnCounts(r *rand.Rand) api.Counts {
	var c api.Counts
	for daemon := range c {
		c[daemon] = uint32(r.Intn(5))
		if r.Intn(20) == 0 {
			c[daemon] = most32 - uint32(r.Intn(2))
		}
	}
	return c
}

// drawnFact is a fact out of few.
func drawnFact(r *rand.Rand) fact {
	inc := []uint32{0, 1, 1, 2, 2, 2, most32}[r.Intn(7)]
	return fact{inc, three(drawnId(r)), three(drawnId(r)), drawnCounts(r), r.Intn(3) == 0}
}

// drawnMembers is members with incarnations out of few.
func drawnMembers(r *rand.Rand) api.Members {
	var m api.Members
	lacks := 1 + r.Intn(5)
	for daemon := range m {
		if r.Intn(lacks+1) == 0 {
			m[daemon] = 1 + uint32(r.Intn(2))
		}
	}
	return m
}

// drawnCore is a core whose peers are, mostly, where it is.
func drawnCore(r *rand.Rand) api.Core {
	c := api.Core{Self: r.Intn(8), Own: 1 + uint32(r.Intn(2)), Conf: drawnId(r), Promise: drawnId(r), Wanted: drawnMembers(r), Cut: drawnCounts(r), Epoch: uint32(r.Intn(3))}
	if least := slices.IndexFunc(c.Wanted[:], func(inc uint32) bool { return inc > 0 }); least >= 0 && r.Intn(2) == 0 {
		c.Self = least
	}
	if r.Intn(20) == 0 {
		c.Epoch = most32 - uint32(r.Intn(2))
	}
	stray := 2 + r.Intn(30)
	for daemon := range c.Peers {
		x := api.Peer{Inc: c.Wanted[daemon], Conf: c.Conf, Promise: c.Promise, Cut: drawnCounts(r), Ready: r.Intn(8) > 0}
		other := peerOf(drawnFact(r))
		if r.Intn(stray) == 0 {
			x.Inc = other.Inc
		}
		if r.Intn(stray) == 0 {
			x.Promise = other.Promise
		}
		switch r.Intn(stray) {
		case 0:
			x.Conf = other.Conf
		case 1:
			x.Conf = c.Promise
		}
		c.Peers[daemon] = x
	}
	return c
}

// again is the facts, each at least once, some more often, in any order.
func again(r *rand.Rand, l []fact) []fact {
	more := slices.Clone(l)
	for range r.Intn(2*len(l) + 1) {
		more = append(more, l[r.Intn(len(l))])
	}
	r.Shuffle(len(more), func(i, j int) { more[i], more[j] = more[j], more[i] })
	return more
}

// falls tells whether what is known now is less than what was.
func falls(was, is fact) bool {
	if was.inc != is.inc {
		return is.inc < was.inc
	}
	if was.promise != is.promise {
		return over(was.promise, is.promise)
	}
	if was.ready && !is.ready {
		return true
	}
	if was.conf != is.conf {
		return over(was.conf, is.conf)
	}
	for daemon, n := range was.cut {
		if is.cut[daemon] < n {
			return true
		}
	}
	return false
}

// hear is what is known of a daemon behind packets that tell the facts; at each
// one it must not fall, and be what the account says of those that came so far.
func hear(t *testing.T, r *rand.Rand, x api.Peer, l []fact) api.Peer {
	t.Helper()
	so := []fact{factOf(x)}
	for _, f := range l {
		next := gather.Update(x, loud(packetOf(f), r))
		if falls(factOf(x), factOf(next)) {
			t.Fatalf("behind %v it falls from %v to %v", f, x, next)
		}
		if so = append(so, f); factOf(next) != learned(so) {
			t.Fatalf("behind %v: %v, not %v", so, next, learned(so))
		}
		x = next
	}
	return x
}

// P12.5: what is known of a daemon does not hang on how often its packets come,
// nor in which order, and does not fall.
func TestKnownDoesNotFall(t *testing.T) {
	r := rand.New(rand.NewSource(126))
	for range 4000 {
		var l []fact
		for range 1 + r.Intn(6) {
			f := drawnFact(r)
			if len(l) > 0 && r.Intn(2) == 0 {
				f.inc, f.promise = l[0].inc, l[0].promise
			}
			l = append(l, f)
		}
		start := api.Peer{}
		if r.Intn(2) == 0 {
			start = peerOf(drawnFact(r))
		}
		want := hear(t, r, start, l)
		for range 4 {
			if got := hear(t, r, start, again(r, l)); got != want {
				t.Fatalf("%v: %v, in another order %v", l, want, got)
			}
		}
	}
}

// P12.5: one packet that comes again tells nothing new, at once or later.
func TestKnownAgain(t *testing.T) {
	r := rand.New(rand.NewSource(127))
	for range 5000 {
		x, a, b := peerOf(drawnFact(r)), packetOf(drawnFact(r)), packetOf(drawnFact(r))
		once := gather.Update(x, a)
		if twice := gather.Update(once, a); twice != once {
			t.Fatalf("%v, and %v: %v, and then %v", x, a, once, twice)
		}
		both := gather.Update(once, b)
		if late := gather.Update(both, a); late != both {
			t.Fatalf("%v, %v, %v: %v, and then %v", x, a, b, both, late)
		}
		if turned := gather.Update(gather.Update(x, b), a); turned != both {
			t.Fatalf("%v, %v, %v: %v, turned %v", x, a, b, both, turned)
		}
	}
}

// world is what daemons have told of themselves: of each one all its packets.
type world [8][]fact

// drawnWorld is a world in which two daemons, of these incarnations, promised
// the same, and come from the same configuration: what each of them told before
// is less, and what the rest told is drawn.
func drawnWorld(r *rand.Rand, pair [2]int, promise, conf api.Id, wanted api.Members) world {
	var w world
	for daemon := range w {
		for range 1 + r.Intn(4) {
			f := drawnFact(r)
			if r.Intn(4) > 0 {
				f.inc = max(1, wanted[daemon])
			}
			if r.Intn(4) > 0 {
				f.promise = three(promise)
			}
			if r.Intn(4) > 0 {
				f.conf = three(conf)
			}
			w[daemon] = append(w[daemon], f)
		}
	}
	for _, daemon := range pair {
		now := fact{wanted[daemon], three(conf), three(promise), drawnCounts(r), r.Intn(2) == 0}
		w[daemon] = slices.DeleteFunc(w[daemon], func(f fact) bool {
			return f.inc > now.inc || f.inc == now.inc && !over(now.promise, f.promise)
		})
		w[daemon] = append(w[daemon], now)
	}
	return w
}

// coreOf is the core of one of the pair, which has heard all packets of a world,
// some of them again, in any order.
func coreOf(t *testing.T, r *rand.Rand, w world, self int, wanted api.Members) api.Core {
	t.Helper()
	now := w[self][len(w[self])-1]
	c := api.Core{Self: self, Own: now.inc, Conf: idOf(now.conf), Promise: idOf(now.promise), Wanted: wanted, Cut: now.cut, Ready: now.ready}
	for daemon := range w {
		if daemon != self {
			c.Peers[daemon] = hear(t, r, api.Peer{}, again(r, w[daemon]))
		}
	}
	return busy(c, r)
}

// P12.5: two daemons that promised the same, come from the same configuration,
// and know the same of all, have the same Target: what all that are wanted, and
// that did so too, had received.
func TestSameTarget(t *testing.T) {
	r := rand.New(rand.NewSource(128))
	grew := 0
	for range 3000 {
		order := r.Perm(8)
		pair := [2]int{order[0], order[1]}
		promise, conf, wanted := drawnId(r), drawnId(r), drawnMembers(r)
		for _, daemon := range pair {
			wanted[daemon] = max(1, wanted[daemon])
		}
		w := drawnWorld(r, pair, promise, conf, wanted)
		var want [8]uint32
		for daemon, l := range w {
			f := learned(l)
			if wanted[daemon] == 0 || f.inc != wanted[daemon] || f.conf != three(conf) || f.promise != three(promise) {
				continue
			}
			for at, n := range f.cut {
				want[at] = max(want[at], n)
			}
		}
		for _, self := range pair {
			c := coreOf(t, r, w, self, wanted)
			if got := agree(t, c).target; got != want {
				t.Fatalf("daemon %d of %v: %v, not %v, in %v, wanted %v", self, pair, got, want, w, wanted)
			}
			if c.Cut != want {
				grew++
			}
		}
	}
	if grew < 2000 {
		t.Errorf("the target was above the cut %d times: too few to tell", grew)
	}
}
