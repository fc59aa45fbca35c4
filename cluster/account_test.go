package cluster_test

import (
	"encoding/binary"
	"fmt"
	"math"
	"math/big"
	"reflect"
	"slices"
	"strings"
	"testing"
	"time"

	"congress/api"
	"congress/cluster"
	"congress/core"
	"congress/frame"
	"congress/packet"
)

const most32 = math.MaxUint32

// strangers are numbers that are no daemon's.
var strangers = []int{-1, 8, math.MinInt, math.MaxInt, -8, 9, 1 << 32, 1<<32 + 1, -1 << 32, math.MinInt + 1, math.MaxInt - 1}

// An account of Step, of clusters whose Cores and Up are as many: what a daemon
// does is what core's calls say, as the promise has it; which letters there are,
// and what is told, is worked out here.

// stepped is the account of Step.
func stepped(c api.Cluster, d api.Deed) (api.Cluster, []api.Told) {
	c = copied(c)
	isDaemon := d.Who >= 0 && d.Who < len(c.Cores)
	place := named(c.Letters, d.Who, d.To, d.Index)
	switch {
	case d.Do == 0 && isDaemon && c.Up[d.Who]:
		return ticked(c, d.Who, d.Frame)
	case d.Do == 1 && place >= 0:
		text := c.Letters[place].Text
		c.Letters = append(slices.Clone(c.Letters[:place]), c.Letters[place+1:]...)
		return arrived(c, d.To, text)
	case d.Do == 2 && place >= 0:
		return arrived(c, d.To, c.Letters[place].Text)
	case d.Do == 3 && place >= 0:
		c.Letters = append(slices.Clone(c.Letters[:place]), c.Letters[place+1:]...)
	case d.Do == 4 && place >= 0 && d.At >= 0 && !c.Letters[place].Turned:
		text := c.Letters[place].Text
		c.Letters[place].Text = turnedText(text, d.At, d.Mask)
		c.Letters[place].Turned = c.Letters[place].Text != text
	case d.Do == 5 && isDaemon:
		c.Up[d.Who] = false
	case d.Do == 6 && isDaemon && !c.Up[d.Who] && c.Cores[d.Who].Own != most32:
		x, ok := core.Start(d.Who, c.Cores[d.Who].Own+1, c.Wait)
		if ok {
			c.Cores[d.Who], c.Up[d.Who] = x, true
		}
	}
	return c, nil
}

// named is the place of the letter of a link that an index names, told in
// numbers without an end; below 0, if there is none.
func named(l []api.Letter, from, to, index int) int {
	var row []int
	for i, x := range l {
		if x.From == from && x.To == to {
			row = append(row, i)
		}
	}
	if len(row) == 0 {
		return -1
	}
	return row[new(big.Int).Mod(big.NewInt(int64(index)), big.NewInt(int64(len(row)))).Int64()]
}

// turnedText is a text in which the four bytes from at on, as far as there are
// such, are turned by the mask's.
func turnedText(text string, at int, mask uint32) string {
	var by [4]byte
	binary.LittleEndian.PutUint32(by[:], mask)
	b := []byte(text)
	for i := range b {
		// No difference of two numbers from 0 on wraps.
		if far := i - at; far >= 0 && far < 4 {
			b[i] = b[i]&^by[far] | by[far]&^b[i]
		}
	}
	return string(b)
}

// ticked is the account of a tick of a daemon that is up.
func ticked(c api.Cluster, who int, next api.Frame) (api.Cluster, []api.Told) {
	if frame.Check(next) != api.OK {
		next = api.Frame{}
	}
	was := c.Cores[who]
	x, _, happened := core.Tick(was, next)
	c.Cores[who] = x
	text, code := packet.Encode(core.Packet(x))
	for to := range c.Cores {
		if to == who || code != api.OK {
			continue
		}
		c.Letters = c.Letters[:min(len(c.Letters), 4096)]
		if len(c.Letters) < 4096 {
			c.Letters = append(c.Letters, api.Letter{From: who, To: to, Text: text})
		}
	}
	return c, toldBy(who, was, happened)
}

// arrived is the account of a letter's coming to a daemon, if there is such a
// one, and it is up.
func arrived(c api.Cluster, to int, text string) (api.Cluster, []api.Told) {
	p, code := packet.Decode(text)
	if code != api.OK || to < 0 || to >= len(c.Cores) || !c.Up[to] {
		return c, nil
	}
	was := c.Cores[to]
	x, _, happened := core.Receive(was, p)
	c.Cores[to] = x
	return c, toldBy(to, was, happened)
}

// toldBy is what a daemon tells: each in the configuration that the views ahead
// of it came to.
func toldBy(who int, was api.Core, happened []api.Happen) []api.Told {
	var told []api.Told
	for i, h := range happened {
		in := was.Conf
		for _, ahead := range happened[:i] {
			if ahead.View {
				in = ahead.Conf
			}
		}
		told = append(told, api.Told{Who: who, Inc: was.Own, In: in, What: h})
	}
	return told
}

// copied is a cluster that shares nothing with c.
func copied(c api.Cluster) api.Cluster {
	c.Cores = slices.Clone(c.Cores)
	for i := range c.Cores {
		c.Cores[i].Kept = slices.Clone(c.Cores[i].Kept)
	}
	c.Up, c.Letters = slices.Clone(c.Up), slices.Clone(c.Letters)
	return c
}

// loose is a cluster that shares nothing with c, with room behind its lists, in
// which something stands.
func loose(c api.Cluster) api.Cluster {
	cores := append(slices.Clone(c.Cores), api.Core{Self: 6, Own: 66}, api.Core{Self: 5})
	for i := range cores {
		l := append(slices.Clone(cores[i].Kept), api.Kept{From: 1, Round: 5}, api.Kept{From: 2, Round: 6})
		cores[i].Kept = l[:len(l)-2]
	}
	c.Cores = cores[:len(cores)-2]
	up := append(slices.Clone(c.Up), true, false, true)
	c.Up = up[:len(up)-3]
	letters := append(slices.Clone(c.Letters), api.Letter{From: 77, To: 78, Text: "room"}, api.Letter{Text: "more room", Turned: true})
	c.Letters = letters[:len(letters)-2]
	return c
}

// whole is a cluster with the room behind its lists, as a part of them.
func whole(c api.Cluster) api.Cluster {
	c.Cores = slices.Clone(c.Cores[:cap(c.Cores)])
	for i := range c.Cores {
		c.Cores[i].Kept = c.Cores[i].Kept[:cap(c.Cores[i].Kept)]
	}
	c.Up, c.Letters = c.Up[:cap(c.Up)], c.Letters[:cap(c.Letters)]
	return c
}

// sameCore tells whether two cores are the same; an empty list is the same as a
// nil one.
func sameCore(a, b api.Core) bool {
	if !slices.Equal(a.Kept, b.Kept) {
		return false
	}
	a.Kept, b.Kept = nil, nil
	return reflect.DeepEqual(a, b)
}

// sameCluster tells whether two clusters are the same.
func sameCluster(a, b api.Cluster) bool {
	return a.Wait == b.Wait && slices.EqualFunc(a.Cores, b.Cores, sameCore) &&
		slices.Equal(a.Up, b.Up) && slices.Equal(a.Letters, b.Letters)
}

// brief tells a cluster shortly, without bytes that are no letters.
func brief(c api.Cluster) string {
	var out strings.Builder
	fmt.Fprintf(&out, "wait %d, up %v", c.Wait, c.Up)
	for _, x := range c.Cores {
		fmt.Fprintf(&out, "; core %d.%d at %d in %v %v, counts %v, promise %v %v %v, %d kept", x.Self, x.Own, x.Now, x.Conf, x.Members, x.Count, x.Promise, x.Wanted, x.Ready, len(x.Kept))
	}
	fmt.Fprintf(&out, "; %d letters", len(c.Letters))
	for _, x := range c.Letters[:min(len(c.Letters), 12)] {
		fmt.Fprintf(&out, ", %d to %d %.20q of %d %v", x.From, x.To, x.Text, len(x.Text), x.Turned)
	}
	return out.String()
}

// briefDeed tells a deed shortly.
func briefDeed(d api.Deed) string {
	return fmt.Sprintf("deed %d of %d to %d, index %d, at %d, mask %#x", d.Do, d.Who, d.To, d.Index, d.At, d.Mask)
}

// briefTold tells what was told.
func briefTold(l []api.Told) string {
	var out strings.Builder
	for _, x := range l {
		h := x.What
		fmt.Fprintf(&out, "[%d.%d in %v: view %v %v %v, frame %d.%d%s]", x.Who, x.Inc, x.In, h.View, h.Conf, h.Members, h.From, h.Round, briefFrame(h.Frame))
	}
	return out.String()
}

// briefFrame tells what stands in a frame.
func briefFrame(f api.Frame) string {
	var out strings.Builder
	for tenant, lane := range f {
		for slot, e := range lane {
			if e != (api.Entry{}) {
				fmt.Fprintf(&out, " %d.%d %d %d %d %d %d %q", tenant, slot, e.Kind, e.Service, e.Group, e.Session, e.Number, e.Text)
			}
		}
	}
	return out.String()
}

// span is where a list lies, with the room behind it.
type span struct {
	name       string
	begin, end uintptr
}

func spanOf[T any](name string, l []T) span {
	v := reflect.ValueOf(l)
	return span{name, v.Pointer(), v.Pointer() + uintptr(cap(l))*v.Type().Elem().Size()}
}

// spans are where the lists of a cluster lie, and of what was told.
func spans(name string, c api.Cluster, told []api.Told) []span {
	l := []span{spanOf(name+"'s cores", c.Cores), spanOf(name+"'s up", c.Up), spanOf(name+"'s letters", c.Letters), spanOf(name+"'s told", told)}
	for i, x := range c.Cores {
		l = append(l, spanOf(fmt.Sprintf("%s's kept %d", name, i), x.Kept))
	}
	return l
}

// apart asks that of the lists that were answered none lies where another one
// of them does, or one that was given.
func apart(t *testing.T, answered, given []span) {
	t.Helper()
	for i, a := range answered {
		for _, b := range slices.Concat(answered[i+1:], given) {
			if a.begin < b.end && b.begin < a.end {
				t.Fatalf("%s and %s share memory", a.name, b.name)
			}
		}
	}
}

// asGiven asks that a cluster is as it was, with the room behind its lists.
func asGiven(t *testing.T, c, was api.Cluster) {
	t.Helper()
	if c, was = whole(c), whole(was); !sameCluster(c, was) {
		t.Fatalf("what was given became %s, was %s", brief(c), brief(was))
	}
}

// agreeStep asks that Step says what the account says, that what was given is as
// it was, and that the answers are memory of their own.
func agreeStep(t *testing.T, c api.Cluster, d api.Deed) (api.Cluster, []api.Told) {
	t.Helper()
	given, was := loose(c), loose(c)
	got, told := cluster.Step(given, d)
	asGiven(t, given, was)
	want, tells := stepped(c, d)
	if !sameCluster(got, want) || !slices.Equal(told, tells) {
		t.Fatalf("%s of %s:\nis  %s, told %s\nnot %s, told %s", briefDeed(d), brief(c), brief(got), briefTold(told), brief(want), briefTold(tells))
	}
	apart(t, spans("the answer", got, told), spans("what was given", given, nil))
	return got, told
}

// agreeRun asks that Run is Step by Step, that what was given is as it was, and
// that the answers are memory of their own.
func agreeRun(t *testing.T, c api.Cluster, l []api.Deed) (api.Cluster, []api.Told) {
	t.Helper()
	given, was := loose(c), loose(c)
	deeds := slices.Clone(l)
	got, told := cluster.Run(given, deeds)
	asGiven(t, given, was)
	if !slices.Equal(deeds, l) {
		t.Fatal("Run changed the deeds")
	}
	want, tells := copied(c), []api.Told(nil)
	for _, d := range l {
		x, more := cluster.Step(want, d)
		want, tells = x, append(tells, more...)
	}
	if !sameCluster(got, want) || !slices.Equal(told, tells) {
		t.Fatalf("%d deeds of %s:\nis  %s, told %s\nnot %s, told %s", len(l), brief(c), brief(got), briefTold(told), brief(want), briefTold(tells))
	}
	apart(t, spans("the answer", got, told), spans("what was given", given, nil))
	return got, told
}

// nothing asks that a deed changes nothing, and tells nothing.
func nothing(t *testing.T, c api.Cluster, d api.Deed) {
	t.Helper()
	if got, told := agreeStep(t, c, d); !sameCluster(got, c) || len(told) != 0 {
		t.Fatalf("%s of %s is %s, told %s", briefDeed(d), brief(c), brief(got), briefTold(told))
	}
}

// begun is a cluster that begins.
func begun(t *testing.T, daemons, wait int) api.Cluster {
	t.Helper()
	c, ok := cluster.Begin(daemons, wait)
	if !ok {
		t.Fatalf("Begin(%d, %d) is false", daemons, wait)
	}
	return c
}

// swept is a cluster of which all that are up have ticked, and all letters have
// come, as often as is said; and what was told.
func swept(t *testing.T, c api.Cluster, often int) (api.Cluster, []api.Told) {
	t.Helper()
	var all, told []api.Told
	for n := range often {
		for who := range c.Cores {
			c, told = agreeStep(t, c, api.Deed{Who: who, Frame: page(10*n + who)})
			all = append(all, told...)
		}
		for len(c.Letters) > 0 {
			x := c.Letters[0]
			c, told = agreeStep(t, c, api.Deed{Do: api.DeedArrive, Who: x.From, To: x.To})
			all = append(all, told...)
		}
	}
	return c, all
}

// page is a frame with a number in it, by which it is known.
func page(n int) api.Frame {
	var f api.Frame
	f[n%3][n%2] = api.Entry{Kind: api.EntSend, Group: 1, Session: 2, Number: uint64(n) + 1, Text: "page"}
	return f
}

// leaves are frames that may be, of all kinds of entries, at their edges.
func leaves() []api.Frame {
	l := []api.Frame{{}}
	for _, e := range []api.Entry{
		{Kind: api.EntSend},
		{Kind: api.EntSend, Service: api.SvcSafe, Group: 7, Session: 65535, Number: most32, Text: "sixteen bytes \x00\xff"},
		{Kind: api.EntSend, Service: api.SvcCausal, Group: 1, Session: 1, Number: 1, Text: "=hi"},
		{Kind: api.EntJoin, Service: api.SvcAgreed, Group: 3, Session: 2},
		{Kind: api.EntLeave, Service: api.SvcAgreed, Session: 65535, Number: 9},
	} {
		for slot := range 6 {
			f := page(slot)
			f[slot/2][slot%2] = e
			l = append(l, f)
		}
	}
	return l
}

// blots are frames that may not be.
func blots() []api.Frame {
	var l []api.Frame
	for _, e := range []api.Entry{
		{Session: 1},
		{Text: "x"},
		{Kind: api.EntKinds},
		{Kind: -1},
		{Kind: math.MinInt},
		{Kind: api.EntSend, Service: api.Services},
		{Kind: api.EntSend, Service: -1},
		{Kind: api.EntSend, Group: 8},
		{Kind: api.EntSend, Group: math.MaxInt},
		{Kind: api.EntSend, Session: 65536},
		{Kind: api.EntSend, Number: 1 << 32},
		{Kind: api.EntSend, Text: strings.Repeat("x", 17)},
		{Kind: api.EntJoin, Service: api.SvcSafe},
		{Kind: api.EntLeave, Service: api.SvcAgreed, Text: "x"},
	} {
		for slot := range 6 {
			f := page(slot)
			f[slot/2][slot%2] = e
			l = append(l, f)
		}
	}
	return l
}

// ends asks that a call ends, without a panic.
func ends(t *testing.T, name string, call func()) {
	t.Helper()
	done := make(chan any)
	go func() {
		defer func() { done <- recover() }()
		call()
	}()
	select {
	case what := <-done:
		if what != nil {
			t.Fatalf("%s: a panic: %v", name, what)
		}
	case <-time.After(time.Minute):
		t.Fatalf("%s does not end", name)
	}
}
