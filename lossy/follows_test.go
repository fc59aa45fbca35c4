package lossy_test

import (
	"math/rand"
	"slices"
	"strconv"
	"testing"

	"congress/api"
	"congress/lossy"
)

// seen is what is to be seen of one step of a way, but for texts.
type seen struct {
	many, place, left int
	found, taken      bool
	who               link
	serial            int // of the letter that was taken
}

// way is letters under way, beside the account of them. A letter's serial number
// is known of the account alone, so that texts may be any.
type way struct {
	t       *testing.T
	r       *rand.Rand // what is done
	ink     *rand.Rand // what stands in letters
	letters []api.Letter
	bag     *bag
	wrote   map[int]string // of each letter the text that it was put with
	steps   []seen
	turns   int
}

func newWay(t *testing.T, seed, ink int64) *way {
	return &way{
		t: t, r: rand.New(rand.NewSource(seed)), ink: rand.New(rand.NewSource(ink)),
		bag: bagOf(nil), wrote: map[int]string{},
	}
}

func (w *way) put(many int) {
	w.t.Helper()
	var x []slip
	for range many {
		x = append(x, slip{link: drawnLink(w.r), text: drawnText(w.ink)})
	}
	first := w.bag.serial
	w.letters = lossy.Put(w.letters, lettersOf(x)...)
	w.bag.put(x)
	for n := first; n < w.bag.serial; n++ {
		w.wrote[n] = w.bag.slips[n].text
	}
}

func (w *way) take(k link, index int) seen {
	w.t.Helper()
	n, found := w.bag.find(k, index)
	place, ok := lossy.Find(w.letters, k.from, k.to, index)
	if want := max(0, slices.Index(w.bag.order(), n)); ok != found || found && place != want || !found && place != 0 {
		w.t.Fatalf("Find of %v, %d: %d, %v, not %d, %v", k, index, place, ok, want, found)
	}
	s, is := w.bag.take(k, index)
	left, x, taken := lossy.Take(w.letters, k.from, k.to, index)
	if taken != is || x != letterOf(s) {
		w.t.Fatalf("Take of %v, %d: %v, %v, not %v, %v", k, index, slipOf(x), taken, s, is)
	}
	w.letters = left
	return seen{place: place, found: ok, taken: taken, who: link{x.From, x.To}, serial: n}
}

func (w *way) turn(k link, index, at int, mask uint32) {
	w.letters = lossy.Turn(w.letters, k.from, k.to, index, at, mask)
	w.bag.turn(k, index, at, mask)
	w.turns++
}

// some is the link of a letter that is under way, or any.
func (w *way) some() link {
	if len(w.letters) > 0 && w.r.Intn(5) > 0 {
		x := w.letters[w.r.Intn(len(w.letters))]
		return link{x.From, x.To}
	}
	return drawnLink(w.r)
}

// step does one of all, and asks that the letters are what the account says.
func (w *way) step() {
	w.t.Helper()
	k := w.some()
	many := lossy.Many(w.letters, k.from, k.to)
	if want := len(w.bag.rows[k]); many != want {
		w.t.Fatalf("Many of %v: %d, not %d", k, many, want)
	}
	index := drawnIndex(w.r, many)
	var s seen
	switch w.r.Intn(5) {
	case 0, 1:
		w.put(w.r.Intn(4))
	case 2:
		w.turn(k, index, drawnAt(w.r), drawnMask(w.r))
	default:
		s = w.take(k, index)
	}
	s.many, s.left = many, len(w.letters)
	w.steps = append(w.steps, s)
	if got, want := slipsOf(w.letters), w.bag.list(); !slices.Equal(got, want) {
		w.t.Fatalf("under way are %v, not %v", short(got), short(want))
	}
	w.spoiltLittle()
}

// spoiltLittle asks that letters differ from what they were put with within four
// bytes, and are turned if they do.
func (w *way) spoiltLittle() {
	w.t.Helper()
	for i, n := range w.bag.order() {
		x, wrote := w.letters[i], w.wrote[n]
		first, last := -1, -1
		for at := range len(wrote) {
			if x.Text[at] != wrote[at] {
				last = at
				if first < 0 {
					first = at
				}
			}
		}
		if len(x.Text) != len(wrote) || last-first > 3 || x.Turned != (first >= 0) {
			w.t.Fatalf("%q became %q, turned %v", wrote, x.Text, x.Turned)
		}
	}
}

// P14.1 to P14.4: drawn letters, puts, takes and turns, step by step; with other
// texts all is the same, but for these.
func TestDrawnWays(t *testing.T) {
	for seed := range int64(150) {
		one, other := newWay(t, seed, 1000+seed), newWay(t, seed, 2000+seed)
		taken := 0
		for range 120 {
			one.step()
			other.step()
		}
		if !slices.Equal(one.steps, other.steps) {
			t.Fatalf("seed %d: with other texts other letters are picked", seed)
		}
		for _, s := range one.steps {
			if s.taken {
				taken++
			}
		}
		if taken < 5 || one.turns < 5 {
			t.Fatalf("seed %d: %d were taken, %d turned", seed, taken, one.turns)
		}
	}
}

// P14.4: also where there is no room for some: those that had none never arrive.
func TestDrawnWaysFull(t *testing.T) {
	for seed := range int64(4) {
		w := newWay(t, 500+seed, 600+seed)
		w.put(4080)
		for range 60 {
			w.step()
			w.put(w.r.Intn(20))
			if len(w.letters) > 4096 {
				t.Fatalf("%d letters are under way", len(w.letters))
			}
		}
		if got, want := slipsOf(w.letters), w.bag.list(); !slices.Equal(got, want) || len(got) < 4000 {
			t.Fatalf("under way are %d, not %d", len(got), len(want))
		}
	}
}

// P14.4: which letter is picked does not hang on texts, nor on whether they were
// turned.
func TestTextsAreOfNoMoment(t *testing.T) {
	r := rand.New(rand.NewSource(144))
	for range 1500 {
		var l []slip
		for range r.Intn(14) {
			l = append(l, slip{drawnLink(r), drawnText(r), r.Intn(4) == 0})
		}
		other := slices.Clone(l)
		for i := range other {
			other[i].text, other[i].turned = drawnText(r), r.Intn(2) == 0
		}
		for _, s := range append(slices.Clone(l), slip{link: drawnLink(r)}) {
			many := agreeMany(t, l, s.from, s.to)
			index := drawnIndex(r, many)
			place, ok := agreeFind(t, l, s.from, s.to, index)
			there, is := agreeFind(t, other, s.from, s.to, index)
			if many != agreeMany(t, other, s.from, s.to) || place != there || ok != is {
				t.Fatalf("%v and %v: %d, %v and %d, %v", l, other, place, ok, there, is)
			}
			left, _, _ := agreeTake(t, l, s.from, s.to, index)
			rest, _, _ := agreeTake(t, other, s.from, s.to, index)
			if !slices.EqualFunc(left, rest, func(a, b slip) bool { return a.link == b.link }) {
				t.Fatalf("%v and %v leave %v and %v", l, other, left, rest)
			}
		}
	}
}

// numbered is drawn letters, as many texts of which are the same.
func numbered(r *rand.Rand, many, texts int) []slip {
	var l []slip
	for range many {
		l = append(l, slip{link: drawnLink(r), text: strconv.Itoa(r.Intn(texts))})
	}
	return l
}

// P14.4: taken by index 0 a link's letters come in the order in which they were
// put, whatever is put, and taken of other links, meanwhile.
func TestInOrder(t *testing.T) {
	r := rand.New(rand.NewSource(145))
	for range 150 {
		want, got := map[link][]string{}, map[link][]string{}
		var letters []api.Letter
		links := map[link]bool{}
		put := func(l []slip) {
			letters = lossy.Put(letters, lettersOf(l)...)
			for _, s := range l {
				want[s.link] = append(want[s.link], s.text)
				links[s.link] = true
			}
		}
		take := func(k link) bool {
			left, x, ok := lossy.Take(letters, k.from, k.to, 0)
			letters = left
			if ok {
				got[k] = append(got[k], x.Text)
			}
			return ok
		}
		for range 30 {
			put(numbered(r, r.Intn(5), 1000))
			take(drawnLink(r))
		}
		for k := range links {
			for take(k) {
			}
		}
		for k := range links {
			if !slices.Equal(got[k], want[k]) {
				t.Fatalf("%v: put %v, taken %v", k, want[k], got[k])
			}
		}
		if len(letters) != 0 {
			t.Fatalf("left are %v", letters)
		}
	}
}

// P14.4: each letter arrives as often as it was put, by whatever indexes they
// are taken.
func TestAsOftenAsPut(t *testing.T) {
	r := rand.New(rand.NewSource(146))
	for range 200 {
		put, taken := map[api.Letter]int{}, map[api.Letter]int{}
		var letters []api.Letter
		for range 10 {
			x := lettersOf(numbered(r, r.Intn(8), 3))
			letters = lossy.Put(letters, x...)
			for _, y := range x {
				put[y]++
			}
		}
		for steps := 0; len(letters) > 0; steps++ {
			k := letters[r.Intn(len(letters))]
			left, x, ok := lossy.Take(letters, k.From, k.To, drawnIndex(r, 5))
			if !ok || len(left) != len(letters)-1 || steps > 100 {
				t.Fatalf("of %v %v, %v was taken, and left %v", letters, x, ok, left)
			}
			taken[x]++
			letters = left
		}
		for x, many := range put {
			if taken[x] != many {
				t.Fatalf("%v was put %d times, and taken %d times", x, many, taken[x])
			}
		}
		if len(taken) != len(put) {
			t.Fatalf("put %v, taken %v", put, taken)
		}
	}
}

// errand is one that is run on a link.
type errand struct {
	what, index, at int
	mask            uint32
	text            string
}

// run does an errand, and tells the letter that was taken.
func (e errand) run(l []api.Letter, k link) ([]api.Letter, api.Letter) {
	switch e.what {
	case 0:
		return lossy.Put(l, api.Letter{From: k.from, To: k.to, Text: e.text}), api.Letter{}
	case 1:
		return lossy.Turn(l, k.from, k.to, e.index, e.at, e.mask), api.Letter{}
	}
	left, x, _ := lossy.Take(l, k.from, k.to, e.index)
	return left, x
}

// P14.4: what is taken of a link is the same, in whatever order the errands of
// several links come between one another.
func TestLinksApart(t *testing.T) {
	r := rand.New(rand.NewSource(147))
	links := []link{{0, 1}, {1, 0}, {0, 0}, {2, 1}, {-1, 8}}
	for range 200 {
		errands := map[link][]errand{}
		want := map[link][]api.Letter{}
		for _, k := range links {
			var l []api.Letter
			for range r.Intn(25) {
				e := errand{r.Intn(3), drawnIndex(r, 4), drawnAt(r), drawnMask(r), drawnText(r)}
				errands[k] = append(errands[k], e)
				var x api.Letter
				l, x = e.run(l, k)
				want[k] = append(want[k], x)
			}
		}
		var l []api.Letter
		got := map[link][]api.Letter{}
		for left := links; len(left) > 0; {
			k := left[r.Intn(len(left))]
			done := len(got[k])
			if done == len(errands[k]) {
				left = slices.DeleteFunc(slices.Clone(left), func(x link) bool { return x == k })
				continue
			}
			var x api.Letter
			l, x = errands[k][done].run(l, k)
			got[k] = append(got[k], x)
		}
		for _, k := range links {
			if !slices.Equal(got[k], want[k]) {
				t.Fatalf("%v: taken %v, not %v", k, slipsOf(got[k]), slipsOf(want[k]))
			}
		}
	}
}
