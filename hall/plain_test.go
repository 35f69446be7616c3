package hall

import (
	"math/big"
	"slices"
	"testing"

	"stint/api"
	"stint/house"
)

// plainHall is a hall in which nothing runs side by side: a house to which turns are done one behind the other.
type plainHall struct {
	t     *testing.T
	h     *house.House
	p     api.Plan
	fed   []int // how many pieces came from each connection
	said  [][]byte
	turns []api.Turn
}

func newPlain(t *testing.T, c api.Config, p api.Plan) *plainHall {
	t.Helper()
	h, _, err := house.New(c, 0)
	if err != api.OK {
		t.Fatalf("house.New = %d", err)
	}
	for k := range p.Pieces {
		if err := h.Join(k); err != api.OK {
			t.Fatalf("Join(%d) = %d", k, err)
		}
	}
	return &plainHall{t: t, h: h, p: p, fed: make([]int, len(p.Pieces)), said: make([][]byte, len(p.Pieces))}
}

// candidates are P23.2's: connections, and -1 for the clock.
func (x *plainHall) candidates() []int {
	var list []int
	for _, k := range x.h.Conns() {
		if x.fed[k] < len(x.p.Pieces[k]) {
			list = append(list, k)
		}
	}
	if x.h.Now() < x.p.Ticks {
		list = append(list, -1)
	}
	return list
}

// turn does the turn of one of the candidates.
func (x *plainHall) turn(who int) {
	x.t.Helper()
	outs, err := []api.Out(nil), api.OK
	if who < 0 {
		x.turns = append(x.turns, api.Turn{Conn: -1, Piece: x.h.Now()})
		outs = x.h.Tick()
	} else {
		x.turns = append(x.turns, api.Turn{Conn: who, Piece: x.fed[who]})
		outs, err = x.h.Feed(who, x.p.Pieces[who][x.fed[who]])
		x.fed[who]++
	}
	if err != api.OK {
		x.t.Fatalf("Feed(%d) = %d", who, err)
	}
	for _, out := range outs {
		if out.Kind == api.OutSay {
			x.said[out.Conn] = append(x.said[out.Conn], out.Data...)
		}
	}
}

// place is the number of the candidate that a pick means: here with numbers that have no end.
func place(pick, n int) int {
	x := big.NewInt(int64(pick))
	if pick < 0 {
		x.Add(x, big.NewInt(1)).Neg(x)
	}
	return int(x.Mod(x, big.NewInt(int64(n))).Int64())
}

// plainRun is what a hall has to tell of a plan that may be.
func plainRun(t *testing.T, c api.Config, p api.Plan) ([][]byte, []api.Turn) {
	t.Helper()
	x := newPlain(t, c, p)
	left := slices.Clone(p.Picks)
	for list := x.candidates(); len(list) > 0; list = x.candidates() {
		if len(left) == 0 {
			left = slices.Clone(p.Picks)
		}
		pick := 0
		if len(left) > 0 {
			pick, left = left[0], left[1:]
		}
		x.turn(list[place(pick, len(list))])
	}
	return x.said, x.turns
}

// picksFor are picks by which those whose numbers stand in an order (-1: the clock) have their turns in it; each must be a candidate then.
func picksFor(t *testing.T, c api.Config, p api.Plan, order []int) []int {
	t.Helper()
	x := newPlain(t, c, p)
	var picks []int
	for i, who := range order {
		place := slices.Index(x.candidates(), who)
		if place < 0 {
			t.Fatalf("at %d: %d can't have its turn: %v can", i, who, x.candidates())
		}
		picks = append(picks, place)
		x.turn(who)
	}
	return picks
}
