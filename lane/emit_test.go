package lane_test

import (
	"slices"
	"testing"
)

// msg is a slip of a session that waits.
func msg(session uint64, text string) slip {
	return slip{sends, fifo, 1, session, uint64(len(text)), text}
}

// texts are those of slips.
func texts(l []slip) []string {
	return each(l, func(s slip) string { return s.text })
}

// P23.3: Control with 0 to 3, Waiting with none, some of one session and some of
// several, each Turn of them.
func TestEmit(t *testing.T) {
	none := []slip(nil)
	one := []slip{msg(2, "a"), msg(2, "b"), msg(2, "c")}
	several := []slip{msg(3, "a"), msg(1, "b"), msg(1, "c"), msg(2, "d")}
	control := []slip{in(1, 1), out(2, 1), in(3, 2)}
	for _, c := range []struct {
		control int
		waiting []slip
		turn    uint64
		sent    []string // of Waiting
		then    uint64
		left    []string
	}{
		{0, none, 0, nil, 0, nil},
		{0, none, 7, nil, 7, nil},
		{0, one[:1], 0, []string{"a"}, 2, nil},
		{0, one[:1], 2, []string{"a"}, 2, nil},
		{0, one, 0, []string{"a", "b"}, 2, []string{"c"}},
		{0, one, 1, []string{"a", "b"}, 2, []string{"c"}},
		{0, one, 2, []string{"a", "b"}, 2, []string{"c"}},
		{0, one, 3, []string{"a", "b"}, 2, []string{"c"}},
		{0, several, 0, []string{"b", "d"}, 2, []string{"a", "c"}},
		{0, several, 1, []string{"d", "a"}, 3, []string{"b", "c"}},
		{0, several, 2, []string{"a", "b"}, 1, []string{"c", "d"}},
		{0, several, 3, []string{"b", "d"}, 2, []string{"a", "c"}},
		{0, several, most, []string{"b", "d"}, 2, []string{"a", "c"}},
		{1, none, 5, nil, 5, nil},
		{1, one, 0, []string{"a"}, 2, []string{"b", "c"}},
		{1, several, 0, []string{"b"}, 1, []string{"a", "c", "d"}},
		{1, several, 1, []string{"d"}, 2, []string{"a", "b", "c"}},
		{1, several, 2, []string{"a"}, 3, []string{"b", "c", "d"}},
		{1, several, 3, []string{"b"}, 1, []string{"a", "c", "d"}},
		{2, none, 5, nil, 5, nil},
		{2, several, 0, nil, 0, []string{"a", "b", "c", "d"}},
		{2, several, 2, nil, 2, []string{"a", "b", "c", "d"}},
		{3, none, 0, nil, 0, nil},
		{3, several, 3, nil, 3, []string{"a", "b", "c", "d"}},
	} {
		b := asks(t, began(1, 1, 9), "open", fine)
		b.control, b.waiting, b.turn = control[:c.control], c.waiting, c.turn
		n := min(c.control, 2)
		then, sent := agreeEmit(t, b)
		if !slices.Equal(sent[:n], control[:n]) || !slices.Equal(texts(sent[n:]), c.sent) {
			t.Errorf("%+v: sent: %v", c, sent)
		}
		if !slices.Equal(then.control, control[n:c.control]) || !slices.Equal(texts(then.waiting), c.left) || then.turn != c.then {
			t.Errorf("%+v: then %v, %v, %d", c, then.control, texts(then.waiting), then.turn)
		}
		// Nothing else is changed.
		if then.control, then.waiting, then.turn = b.control, b.waiting, b.turn; !then.same(b) {
			t.Errorf("%+v: %s", c, then.unlike(b))
		}
	}
}

// P23.3: a lane that emits again and again sends all of it, by turns.
func TestEmitAll(t *testing.T) {
	b := asks(t, began(0, 0, 9, 8), "open", fine, "open", fine,
		"join 9 1", fine, "join 8 1", fine, "join 8 2", fine,
		"send 9 1 fifo =a", fine, "send 9 1 safe =b", fine, "send 9 1 fifo =c", fine, "send 8 2 fifo =d", fine, "send 8 1 fifo =e", fine)
	var all []slip
	for range 5 {
		var sent []slip
		b, sent = agreeEmit(t, b)
		all = append(all, sent...)
	}
	if !slices.Equal(all[:3], []slip{in(1, 1), in(1, 2), in(2, 2)}) {
		t.Errorf("sent: %v", all)
	}
	if got := texts(all[3:]); !slices.Equal(got, []string{"a", "d", "b", "e", "c"}) {
		t.Errorf("sent: %v", got)
	}
	if _, sent := agreeEmit(t, b); len(sent) > 0 {
		t.Errorf("sent at last: %v", sent)
	}
}
