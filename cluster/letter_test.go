package cluster_test

import (
	"math"
	"slices"
	"testing"

	"congress/api"
	"congress/core"
	"congress/packet"
)

// indexes are an index's edges, for a link of as many letters.
func indexes(many int) []int {
	return []int{
		0, 1, 2, many - 1, many, many + 1, 2 * many, 1000*many + 1, -1, -2, 1 - many, -many, -many - 1, -1000*many - 1,
		math.MinInt, math.MinInt + 1, math.MaxInt - 1, math.MaxInt, math.MinInt32, math.MaxInt32, math.MaxUint32, 1 << 32, -1 << 32,
	}
}

// busy is three daemons with several letters on each link, none of which is like
// another one.
func busy(t *testing.T) api.Cluster {
	t.Helper()
	c, _ := swept(t, begun(t, 3, 6), 6)
	for n := range 12 {
		c, _ = agreeStep(t, c, api.Deed{Who: n % 3, Frame: page(n)})
		c, _ = agreeStep(t, c, api.Deed{Do: api.DeedTwice, Who: n % 3, To: (n + 1) % 3, Index: -1})
	}
	return c
}

// P15.2: letters are picked by their link and their index, and arrive, stay, are
// lost or turned.
func TestLetterIndex(t *testing.T) {
	c := busy(t)
	for from := range 3 {
		for to := range 3 {
			for _, index := range indexes(4) {
				for do := api.DeedArrive; do <= api.DeedTurn; do++ {
					d := api.Deed{Do: do, Who: from, To: to, Index: index, At: 5, Mask: 0x01020304}
					if from == to {
						nothing(t, c, d)
						continue
					}
					got, _ := agreeStep(t, c, d)
					if gone := do == api.DeedArrive || do == api.DeedLose; gone != (len(got.Letters) == len(c.Letters)-1) {
						t.Fatalf("%s: %d letters of %d", briefDeed(d), len(got.Letters), len(c.Letters))
					}
				}
			}
		}
	}
}

// P15.2: of a link without letters nothing arrives, whoever is at its ends.
func TestLetterOfNoLink(t *testing.T) {
	c := begun(t, 3, 3)
	c, _ = agreeStep(t, c, api.Deed{Who: 1})
	for _, n := range append([]int{0, 1, 2, 3, 7}, strangers...) {
		for _, who := range append([]int{0, 2, 3, 7}, strangers...) {
			for do := api.DeedArrive; do <= api.DeedTurn; do++ {
				nothing(t, c, api.Deed{Do: do, Who: who, To: n, Mask: 1})
			}
		}
	}
}

// P15.2: a letter arrives as core.Receive of its packet, at To; it is gone then,
// unless it comes twice; a lost one is not received.
func TestLetterArrives(t *testing.T) {
	c := busy(t)
	place := named(c.Letters, 1, 2, 0)
	p, code := packet.Decode(c.Letters[place].Text)
	if code != api.OK {
		t.Fatal(code)
	}
	want, ok, _ := core.Receive(c.Cores[2], p)
	if !ok || sameCore(want, c.Cores[2]) {
		t.Fatal("the letter is of no moment")
	}
	rest := slices.Delete(slices.Clone(c.Letters), place, place+1)
	for _, do := range []int{api.DeedArrive, api.DeedTwice, api.DeedLose} {
		got, _ := agreeStep(t, c, api.Deed{Do: do, Who: 1, To: 2})
		if received := do != api.DeedLose; received != sameCore(got.Cores[2], want) || received == sameCore(got.Cores[2], c.Cores[2]) {
			t.Errorf("deed %d: the core is %+v", do, got.Cores[2])
		}
		if left := rest; do != api.DeedTwice && !slices.Equal(got.Letters, left) || do == api.DeedTwice && !slices.Equal(got.Letters, c.Letters) {
			t.Errorf("deed %d: %s", do, brief(got))
		}
		if !sameCore(got.Cores[0], c.Cores[0]) || !sameCore(got.Cores[1], c.Cores[1]) {
			t.Errorf("deed %d: another one's core changed", do)
		}
	}
}

// P15.2: a letter that comes twice tells its frame once.
func TestLetterTwice(t *testing.T) {
	c, _ := swept(t, begun(t, 2, 3), 8)
	c, _ = agreeStep(t, c, api.Deed{Who: 1, Frame: page(1)})
	c, _ = agreeStep(t, c, api.Deed{Who: 0, Frame: page(2)})
	id := c.Cores[0].Conf
	c, told := agreeStep(t, c, api.Deed{Do: api.DeedTwice, Who: 1, To: 0})
	asksTold(t, "a letter, for the first time", told, frameTold(0, 1, id, 1, c.Cores[1].Count[1], page(1)))
	for range 2 {
		c, told = agreeStep(t, c, api.Deed{Do: api.DeedTwice, Who: 1, To: 0})
		asksTold(t, "a letter, again", told)
	}
	c, told = agreeStep(t, c, api.Deed{Do: api.DeedArrive, Who: 1, To: 0})
	asksTold(t, "a letter, for the last time", told)
	nothing(t, c, api.Deed{Do: api.DeedTwice, Who: 1, To: 0})
}

// P15.2: a letter to one that is down is gone, or stays, and is not received; to
// one that came up again it is.
func TestLetterToOneThatWasDown(t *testing.T) {
	c, _ := swept(t, begun(t, 3, 3), 6)
	c, _ = agreeStep(t, c, api.Deed{Who: 0, Frame: page(1)})
	c, _ = agreeStep(t, c, api.Deed{Do: api.DeedCrash, Who: 1})
	for do := api.DeedArrive; do <= api.DeedLose; do++ {
		got, told := agreeStep(t, c, api.Deed{Do: do, Who: 0, To: 1})
		asksTold(t, "a letter to one that is down", told)
		if !slices.EqualFunc(got.Cores, c.Cores, sameCore) || slices.Contains(got.Letters, c.Letters[0]) != (do == api.DeedTwice) {
			t.Errorf("deed %d: %s", do, brief(got))
		}
	}
	c, _ = agreeStep(t, c, api.Deed{Do: api.DeedUp, Who: 1})
	deaf, _ := agreeStep(t, c, api.Deed{Do: api.DeedArrive, Who: 0, To: 1})
	if !sameCore(deaf.Cores[1], beginning(1, 2, 3)) {
		t.Errorf("ahead of its first tick it hears: %+v", deaf.Cores[1])
	}
	c, _ = agreeStep(t, c, api.Deed{Who: 1})
	c, told := agreeStep(t, c, api.Deed{Do: api.DeedArrive, Who: 0, To: 1})
	asksTold(t, "a letter to one that came up again", told)
	if c.Cores[1].Peers[0].Conf != c.Cores[0].Conf || c.Cores[1].Own != 2 {
		t.Errorf("it is not heard: %+v", c.Cores[1])
	}
	// A letter of one that went down is one none the less.
	c, _ = agreeStep(t, c, api.Deed{Do: api.DeedCrash, Who: 0})
	c, _ = agreeStep(t, c, api.Deed{Do: api.DeedArrive, Who: 0, To: 2})
	if c.Cores[2].Heard[0] != c.Cores[2].Now {
		t.Errorf("of one that is down it was not received: %+v", c.Cores[2])
	}
}

// P15.2: the link alone counts: letters from nobody arrive, and letters to
// nobody are taken; a daemon may stand at both ends.
func TestLetterOfNobody(t *testing.T) {
	c := begun(t, 3, 3)
	c, _ = agreeStep(t, c, api.Deed{Who: 1})
	c, _ = agreeStep(t, c, api.Deed{Who: 2})
	text := c.Letters[0].Text
	c.Letters = nil
	ends := append([]int{0, 1, 2, 3, 7}, strangers...)
	for _, from := range ends {
		for _, to := range ends {
			c.Letters = append(c.Letters, api.Letter{From: from, To: to, Text: text})
		}
	}
	for _, from := range ends {
		for _, to := range ends {
			for do := api.DeedArrive; do <= api.DeedTurn; do++ {
				got, told := agreeStep(t, c, api.Deed{Do: do, Who: from, To: to, Index: 3, At: 600, Mask: 8})
				asksTold(t, "a letter", told)
				// Daemon 0 has not ticked, so it hears nobody; daemon 1 does not
				// heed itself.
				hears := to == 2 && (do == api.DeedArrive || do == api.DeedTwice)
				if hears == slices.EqualFunc(got.Cores, c.Cores, sameCore) {
					t.Fatalf("from %d to %d, deed %d: %s", from, to, do, brief(got))
				}
			}
		}
	}
}

// P15.2: what is no packet is not received, but taken.
func TestLetterIsNoPacket(t *testing.T) {
	c := begun(t, 2, 3)
	c, _ = agreeStep(t, c, api.Deed{Who: 0})
	c, _ = agreeStep(t, c, api.Deed{Who: 1})
	right := c.Letters[0].Text
	texts := []string{"", "a", right[:640], right + "\x00", right[1:], right[:637] + "\x00\x00\x00\x00", right + right, string(make([]byte, 641))}
	for _, text := range texts {
		for _, turned := range []bool{false, true} {
			c.Letters[0].Text, c.Letters[0].Turned = text, turned
			for _, do := range []int{api.DeedArrive, api.DeedTwice} {
				got, told := agreeStep(t, c, api.Deed{Do: do, Who: 0, To: 1})
				asksTold(t, "no packet", told)
				if !slices.EqualFunc(got.Cores, c.Cores, sameCore) || (len(got.Letters) == 1) != (do == api.DeedArrive) {
					t.Fatalf("%.20q: %s", text, brief(got))
				}
			}
		}
	}
	// Whether it was turned is of no moment for it: its bytes are.
	c.Letters[0].Text = right
	got, _ := agreeStep(t, c, api.Deed{Do: api.DeedArrive, Who: 0, To: 1})
	if sameCore(got.Cores[1], c.Cores[1]) {
		t.Error("a packet is not received")
	}
}

// P15.2, P6: a letter that was turned within four bytes, in whatever part of the
// packet, is nothing; it is turned once.
func TestLetterTurned(t *testing.T) {
	c := busy(t)
	place := named(c.Letters, 0, 1, 1)
	text := c.Letters[place].Text
	for at := range 641 {
		for _, mask := range []uint32{1, 0x80, 0xff, 0x80000000 >> (at % 32), 0x01020304, 0xffffffff} {
			turned, told := agreeStep(t, c, api.Deed{Do: api.DeedTurn, Who: 0, To: 1, Index: 1, At: at, Mask: mask})
			asksTold(t, "a turn", told)
			x := turned.Letters[place]
			if x.Text != turnedText(text, at, mask) || x.Turned != (x.Text != text) || !slices.EqualFunc(turned.Cores, c.Cores, sameCore) {
				t.Fatalf("at %d, mask %#x: %s", at, mask, brief(turned))
			}
			if !x.Turned {
				continue
			}
			nothing(t, turned, api.Deed{Do: api.DeedTurn, Who: 0, To: 1, Index: 1, At: at, Mask: mask})
			nothing(t, turned, api.Deed{Do: api.DeedTwice, Who: 0, To: 1, Index: 1})
			gone, told := agreeStep(t, turned, api.Deed{Do: api.DeedArrive, Who: 0, To: 1, Index: 1})
			asksTold(t, "a letter that was turned", told)
			if len(gone.Letters) != len(c.Letters)-1 || !slices.EqualFunc(gone.Cores, c.Cores, sameCore) {
				t.Fatalf("at %d, mask %#x, it comes: %s", at, mask, brief(gone))
			}
		}
	}
}

// P15.2: At and Mask at their edges.
func TestLetterTurnEdges(t *testing.T) {
	c := busy(t)
	for _, at := range []int{-1, -2, -4, 641, 642, 644, 1 << 32, 1<<32 + 5, -1 << 32, math.MinInt, math.MaxInt, math.MaxInt - 3} {
		nothing(t, c, api.Deed{Do: api.DeedTurn, Who: 2, To: 0, At: at, Mask: most32})
	}
	for _, at := range []int{0, 5, 637, 640} {
		nothing(t, c, api.Deed{Do: api.DeedTurn, Who: 2, To: 0, At: at})
	}
	// Of a mask's four bytes those that lie behind the end turn nothing.
	nothing(t, c, api.Deed{Do: api.DeedTurn, Who: 2, To: 0, At: 640, Mask: 0xffffff00})
	nothing(t, c, api.Deed{Do: api.DeedTurn, Who: 2, To: 0, At: 638, Mask: 0xff000000})
	last, _ := agreeStep(t, c, api.Deed{Do: api.DeedTurn, Who: 2, To: 0, At: 640, Mask: 0xffffff01})
	if x := last.Letters[named(c.Letters, 2, 0, 0)]; !x.Turned {
		t.Error("the last byte is not turned")
	}
}
