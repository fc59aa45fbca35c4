package audit_test

import (
	"math/rand"
	"slices"
	"strings"
	"testing"

	"congress/api"
	"congress/audit"
)

// keeper is an audit under way, beside a chronicle of what was added that is told
// without the program's packages.
type keeper struct {
	t        *testing.T
	l        []api.Record
	came     book
	text     string
	failures int
}

// add adds a record, and asks that it stands at the end, and that what stood
// ahead stays, also in the list to which it was added.
func (k *keeper) add(tick uint32, call string, code int) {
	k.t.Helper()
	ahead := k.l
	k.l = audit.Add(ahead, tick, call, api.Errno(code))
	if n := len(k.came); n > 0 {
		tick = max(tick, k.came[n-1].tick)
	}
	added := note{uint64(len(k.came) + 1), tick, call, code}
	k.came = append(k.came, added)
	k.text += added.line()
	if code != 0 {
		k.failures++
	}
	if got := notesOf(k.l); !got.same(k.came) {
		k.t.Fatalf("behind adding %+v the audit is %s, not %s", added, got, k.came)
	}
	if got := notesOf(ahead); !got.same(k.came[:len(k.came)-1]) {
		k.t.Fatalf("behind adding %+v the audit ahead is %s", added, got)
	}
}

// ask asks that it is an audit, and is read again as it was.
func (k *keeper) ask() {
	k.t.Helper()
	if !audit.Check(k.l) || audit.Failed(k.l) != k.failures {
		k.t.Fatalf("of %s Check is %v, and Failed %d, not %d", k.came, audit.Check(k.l), audit.Failed(k.l), k.failures)
	}
	s := audit.Text(k.l)
	if s != k.text {
		k.t.Fatalf("Text of %s is %q, not %q", k.came, s, k.text)
	}
	if l, ok := audit.Read(s); !ok || !slices.Equal(l, k.l) {
		k.t.Fatalf("%s is read again as %s, %v", k.came, notesOf(l), ok)
	}
}

// P20.3: drawn audits, from nothing on, with ticks that rise, stay and fall: what
// is added stands at the end, what stood ahead stays, and each audit is read
// again as it was.
func TestDrawnAudits(t *testing.T) {
	held := 0
	for seed := range int64(300) {
		r := rand.New(rand.NewSource(2030 + seed))
		k := &keeper{t: t}
		k.ask()
		var tick uint32
		for range r.Intn(60) {
			switch r.Intn(12) {
			case 0:
				tick = drawnTick(r) % 1000
			case 1:
				tick -= min(tick, uint32(r.Intn(5)))
			default:
				tick += uint32(r.Intn(3))
			}
			if n := len(k.came); n > 0 && tick < k.came[n-1].tick {
				held++
			}
			k.add(tick, drawnCall(r), drawnCode(r))
			if r.Intn(5) == 0 {
				k.ask()
			}
		}
		k.ask()
	}
	if held < 500 {
		t.Fatalf("only %d ticks were below the last one's", held)
	}
}

// P20.3: audits that part behind a common beginning: what is added to the one is
// not seen in the other.
func TestAuditsThatPart(t *testing.T) {
	for seed := range int64(200) {
		r := rand.New(rand.NewSource(2040 + seed))
		k := &keeper{t: t}
		for range r.Intn(10) {
			k.add(drawnTick(r), drawnCall(r), drawnCode(r))
		}
		one, other := *k, *k
		one.came, other.came = slices.Clone(k.came), slices.Clone(k.came)
		for range 10 {
			one.add(drawnTick(r), drawnCall(r), drawnCode(r))
			other.add(drawnTick(r), drawnCall(r), drawnCode(r))
			one.ask()
			other.ask()
		}
		k.ask()
	}
}

// spoil is a text with some of its bytes changed, left out, put in or doubled.
func spoil(r *rand.Rand, s string) string {
	for range 1 + r.Intn(2) {
		i := r.Intn(len(s) + 1)
		j := min(len(s), i+r.Intn(3))
		switch r.Intn(6) {
		case 0:
			s = s[:i] + s[j:]
		case 1:
			s = s[:j] + s[i:]
		case 2:
			s = s[:i] + string([]byte{byte(r.Intn(256))}) + s[j:]
		case 3:
			s = s[:i] + string([]byte{"0123456789abcdef -\"%\n"[r.Intn(21)]}) + s[j:]
		case 4:
			s = s[:i] + string([]byte{"0123456789abcdef -\"%\n"[r.Intn(21)]}) + s[i:]
		default:
			s = s[:i]
		}
	}
	return s
}

// P20.3: drawn bytes, and texts of drawn records with bytes changed: whatever is
// read is an audit, and is written as it stood.
func TestDrawnTexts(t *testing.T) {
	came := map[bool]int{}
	for seed := range int64(20000) {
		r := rand.New(rand.NewSource(2050 + seed))
		var s string
		if r.Intn(4) == 0 {
			for range r.Intn(4) {
				s += spoil(r, drawnNote(r).line())
			}
		} else {
			s = drawnBook(r, 4).text()
		}
		if r.Intn(3) > 0 {
			s = spoil(r, s)
		}
		want, may := bookOf(s)
		l, ok := audit.Read(s)
		if ok != may || !notesOf(l).same(want) {
			t.Fatalf("Read of %q is %s, %v, not %s, %v", s, notesOf(l), ok, want, may)
		}
		if ok && (!audit.Check(l) || audit.Text(l) != s) {
			t.Fatalf("%q is read, and written as %q", s, audit.Text(l))
		}
		if ok && s != "" {
			came[true]++
		} else if !ok {
			came[false]++
		}
	}
	if came[true] < 2000 || came[false] < 2000 {
		t.Fatalf("too few of a kind came: %v", came)
	}
}

// P20.3: any bytes, of few kinds: what is parsed is written as it stood.
func TestDrawnBytes(t *testing.T) {
	const kinds = "01279 -\"%af\n"
	came := map[bool]int{}
	for seed := range int64(20000) {
		r := rand.New(rand.NewSource(2060 + seed))
		var b strings.Builder
		b.WriteString([]string{"", "1 7 0 \"", "1 ", "1 7 "}[r.Intn(4)])
		for range r.Intn(10) {
			b.WriteByte(kinds[r.Intn(len(kinds))])
		}
		b.WriteString([]string{"", "\"\n", "0 0 \"\"\n", " 0 \"\"\n", " \"\"\n"}[r.Intn(5)])
		_, ok := agreeParse(t, b.String())
		came[ok]++
		agreeRead(t, b.String())
	}
	if came[true] < 200 || came[false] < 2000 {
		t.Fatalf("too few of a kind came: %v", came)
	}
}
