package cluster_test

import (
	"testing"

	"congress/api"
)

// accord is deeds of two daemons in one configuration, and what was told behind
// each, that hold together: the account refuses what is told otherwise.
func accord() ([]api.Deed, [][]api.Told) {
	a, b, both := api.Id{Inc: 1}, api.Id{Coord: 1, Inc: 1}, api.Id{Epoch: 1, Inc: 1}
	last := api.Id{Epoch: 2, Inc: 1}
	m := api.Members{1, 1}
	tick := func(who, n int) api.Deed { return api.Deed{Who: who, Frame: page(n)} }
	letter := func(from, to int) api.Deed { return api.Deed{Do: api.DeedArrive, Who: from, To: to} }
	return []api.Deed{letter(1, 0), letter(0, 1), tick(0, 5), tick(1, 6), letter(1, 0), letter(0, 1), tick(0, 7), letter(0, 1), letter(1, 0), letter(0, 1)},
		[][]api.Told{
			{viewTold(0, 1, a, both, m)},
			{viewTold(1, 1, b, both, m)},
			{frameTold(0, 1, both, 0, 1, page(5))},
			{frameTold(1, 1, both, 1, 1, page(6))},
			{frameTold(0, 1, both, 1, 1, page(6))},
			{frameTold(1, 1, both, 0, 1, page(5))},
			{frameTold(0, 1, both, 0, 2, page(7))},
			{frameTold(1, 1, both, 0, 2, page(7))},
			{viewTold(0, 1, both, last, m)},
			{viewTold(1, 1, both, last, m)},
		}
}

// noted is what the account says of deeds, and of what was told behind them.
func noted(deeds []api.Deed, told [][]api.Told) error {
	k := newChronicle(2)
	for n, d := range deeds {
		if err := k.note(d, told[n]); err != nil {
			return err
		}
	}
	return k.close()
}

// What was told otherwise than the promises say is refused by the account that
// the drawn deeds are held against.
func TestAccountRefuses(t *testing.T) {
	if err := noted(accord()); err != nil {
		t.Fatal(err)
	}
	turns := map[string]func(d []api.Deed, x [][]api.Told){
		"another list of members":   func(_ []api.Deed, x [][]api.Told) { x[1][0].What.Members[2] = 1 },
		"who is no member installs": func(_ []api.Deed, x [][]api.Told) { x[9][0].What.Members[1] = 0 },
		"another incarnation of it": func(_ []api.Deed, x [][]api.Told) { x[1][0].What.Members[1] = 2 },
		"it is installed again":     func(_ []api.Deed, x [][]api.Told) { x[9][0].What.Conf = x[9][0].In },
		"another one tells it":      func(_ []api.Deed, x [][]api.Told) { x[4][0].Who = 1 },
		"nobody tells it":           func(_ []api.Deed, x [][]api.Told) { x[4][0].Who = 2 },
		"of another incarnation":    func(_ []api.Deed, x [][]api.Told) { x[4][0].Inc = 2 },
		"in another configuration":  func(_ []api.Deed, x [][]api.Told) { x[4][0].In = api.Id{Inc: 1} },
		"a view in the new one":     func(_ []api.Deed, x [][]api.Told) { x[8][0].In = x[8][0].What.Conf },
		"another frame":             func(_ []api.Deed, x [][]api.Told) { x[4][0].What.Frame = page(7) },
		"its own, another frame":    func(_ []api.Deed, x [][]api.Told) { x[3][0].What.Frame = page(7) },
		"a frame that was not sent": func(_ []api.Deed, x [][]api.Told) { x[8][0] = frameTold(0, 1, x[8][0].In, 1, 2, page(6)) },
		"a round is left out":       func(_ []api.Deed, x [][]api.Told) { x[6][0].What.Round = 3 },
		"a round is told twice":     func(_ []api.Deed, x [][]api.Told) { x[7][0] = x[5][0] },
		"of one that is no member":  func(_ []api.Deed, x [][]api.Told) { x[4][0].What.From = 2 },
		"of one that is no daemon":  func(_ []api.Deed, x [][]api.Told) { x[4][0].What.From = -1 },
		"its own, at a letter":      func(_ []api.Deed, x [][]api.Told) { x[8] = append(x[8], frameTold(0, 1, x[8][0].In, 0, 1, page(7))) },
		"of another one, at a tick": func(d []api.Deed, _ [][]api.Told) { d[4] = api.Deed{} },
		"at another deed":           func(d []api.Deed, _ [][]api.Told) { d[4].Do = api.DeedLose },
		"by one that is down":       func(d []api.Deed, x [][]api.Told) { d[8], x[8] = api.Deed{Do: api.DeedCrash, Who: 1}, nil },
		"by one that came up anew": func(d []api.Deed, x [][]api.Told) {
			d[7], x[7] = api.Deed{Do: api.DeedCrash, Who: 1}, nil
			d[8], x[8] = api.Deed{Do: api.DeedUp, Who: 1}, nil
		},
		"a frame that the other lacks": func(_ []api.Deed, x [][]api.Told) { x[7] = nil },
		"a view with a frame":          func(_ []api.Deed, x [][]api.Told) { x[8][0].What.Round = 1 },
		"a frame with a view":          func(_ []api.Deed, x [][]api.Told) { x[7][0].What.Members[0] = 1 },
		"a safe round that one lacks": func(d []api.Deed, x [][]api.Told) {
			// Daemon 0 has two rounds of both, daemon 1 goes on elsewhere, with
			// nothing of daemon 0.
			both := x[4][0].In
			d[5], x[5] = api.Deed{Who: 1, Frame: page(8)}, []api.Told{frameTold(1, 1, both, 1, 2, page(8))}
			d[7], x[7] = api.Deed{Do: api.DeedArrive, Who: 1, To: 0}, []api.Told{frameTold(0, 1, both, 1, 2, page(8))}
			x[9][0].What.Conf = api.Id{Epoch: 3, Coord: 1, Inc: 1}
		},
	}
	for name, turn := range turns {
		deeds, told := accord()
		turn(deeds, told)
		if noted(deeds, told) == nil {
			t.Errorf("%s: it is not refused", name)
		}
	}
}
