package hall

import (
	"fmt"
	"math"
	"math/rand"
	"runtime"
	"slices"
	"strings"
	"sync"
	"testing"

	"stint/api"
	"stint/house"
)

func randomConfig(dice *rand.Rand) api.Config {
	list := []api.Config{ten, small, wide, {JobMax: 1, Segment: 128, Quota: 1024}, {JobMax: 40, Segment: 128, Quota: 2048}, {JobMax: 9, Segment: 512, Quota: 8192}}
	return list[dice.Intn(len(list))]
}

// randomBytes are bytes of which many are ends, or halves of them.
func randomBytes(dice *rand.Rand, n int) string {
	b := make([]byte, n)
	for i := range b {
		b[i] = "\r\n\r\n ab0\x00\xff"[dice.Intn(10)]
	}
	return string(b)
}

// randomText is a command as bytes, or something that is none.
func randomText(dice *rand.Rand) string {
	switch n := dice.Intn(60); {
	case n < 16:
		size := dice.Intn(12)
		return fmt.Sprint("put ", 1022+dice.Intn(4), " ", max(0, dice.Intn(6)-3), " ", 1+dice.Intn(5), " ", size, "\r\n", randomBytes(dice, size), "\r\n")
	case n < 24:
		return "reserve\r\n"
	case n < 32:
		return fmt.Sprint("reserve-with-timeout ", dice.Intn(4), "\r\n")
	case n < 34:
		return randomBytes(dice, dice.Intn(300))
	case n < 36:
		return "quit\r\n"
	}
	verb := []string{
		"delete #", "delete #", "delete #", "release # 5 0", "release # 5 1", "bury # 3", "touch #", "peek #", "kick-job #", "stats-job #", "reserve-job #",
		"use @", "watch @", "ignore @", "stats-tube @", "pause-tube @ %", "kick %", "kick %", "peek-ready", "peek-delayed", "peek-buried", "stats", "list-tubes", "list-tube-used", "list-tubes-watched",
	}[dice.Intn(25)]
	tube := []string{"a", "b", "default", "default"}[dice.Intn(4)]
	return strings.NewReplacer("#", fmt.Sprint(dice.Intn(12)), "@", tube, "%", fmt.Sprint(dice.Intn(4))).Replace(verb) + "\r\n"
}

// randomPieces are commands, cut as chance will have it; some pieces have no bytes.
func randomPieces(dice *rand.Rand, commands int) [][]byte {
	var all []byte
	for range commands {
		all = append(all, randomText(dice)...)
	}
	var pieces [][]byte
	for most := 1 + dice.Intn(60); len(all) > 0; {
		n := min(dice.Intn(most+1), len(all))
		pieces = append(pieces, slices.Clone(all[:n]))
		all = all[n:]
	}
	return pieces
}

func randomPick(dice *rand.Rand) int {
	switch dice.Intn(8) {
	case 0:
		return []int{math.MinInt, math.MinInt + 1, -1, 0, math.MaxInt - 1, math.MaxInt}[dice.Intn(6)]
	case 1:
		return int(dice.Uint64())
	}
	return dice.Intn(40) - 10
}

func randomPlan(dice *rand.Rand) api.Plan {
	p := api.Plan{Ticks: dice.Intn(30)}
	n := dice.Intn(6)
	if dice.Intn(15) == 0 {
		n = dice.Intn(65)
	}
	for range n {
		var pieces [][]byte
		if dice.Intn(8) > 0 {
			pieces = randomPieces(dice, dice.Intn(min(30, 200/n)))
		}
		p.Pieces = append(p.Pieces, pieces)
	}
	for range dice.Intn([]int{1, 3, 9, 500}[dice.Intn(4)]) {
		p.Picks = append(p.Picks, randomPick(dice))
	}
	return p
}

// replay is P23.5: a house to which turns are done one behind the other. It knows nothing of picks.
type replay struct {
	t    *testing.T
	h    *house.House
	p    api.Plan
	next map[int]int // of each connection, and of the clock (-1), what comes next
	hung map[int]bool
	said [][]byte
}

func newReplay(t *testing.T, c api.Config, p api.Plan) *replay {
	t.Helper()
	h, _, _ := house.New(c, 0)
	for k := range p.Pieces {
		h.Join(k)
	}
	return &replay{t, h, p, map[int]int{}, map[int]bool{}, make([][]byte, len(p.Pieces))}
}

func (r *replay) turn(x api.Turn) {
	r.t.Helper()
	if x.Piece != r.next[x.Conn] || r.hung[x.Conn] || x.Conn < -1 || x.Conn >= len(r.p.Pieces) {
		r.t.Fatalf("the turn %+v may not be: next is %d", x, r.next[x.Conn])
	}
	r.next[x.Conn]++
	var outs []api.Out
	if x.Conn == -1 {
		outs = r.h.Tick()
	} else {
		outs, _ = r.h.Feed(x.Conn, r.p.Pieces[x.Conn][x.Piece])
	}
	for _, out := range outs {
		switch out.Kind {
		case api.OutSay:
			r.said[out.Conn] = append(r.said[out.Conn], out.Data...)
		case api.OutHang:
			r.hung[out.Conn] = true
		}
	}
}

// end is P23.6: nothing is left out but what stands behind a hanging up.
func (r *replay) end() {
	r.t.Helper()
	if r.next[-1] != r.p.Ticks {
		r.t.Fatalf("the clock ticked %d times; want %d", r.next[-1], r.p.Ticks)
	}
	for k, pieces := range r.p.Pieces {
		if r.next[k] != len(pieces) && !r.hung[k] {
			r.t.Fatalf("%d has had %d turns; want %d", k, r.next[k], len(pieces))
		}
	}
}

// P23.2, P23.3, P23.5, P23.6: random plans.
func TestPlays(t *testing.T) {
	seen := map[string]int{}
	for seed := range 3000 {
		dice := rand.New(rand.NewSource(int64(seed)))
		c, p := randomConfig(dice), randomPlan(dice)
		said, turns := wantSame(t, fmt.Sprint("seed ", seed), c, p)
		r := newReplay(t, c, p)
		for _, x := range turns {
			r.turn(x)
		}
		r.end()
		if !sameSaid(said, r.said) {
			t.Fatalf("seed %d: said is %s; want %s", seed, show(saidText(said)), show(saidText(r.said)))
		}
		for k, pieces := range p.Pieces {
			if r.next[k] < len(pieces) {
				seen["pieces that are not sent"]++
			}
			for _, word := range []string{"INSERTED", "RESERVED", "DELETED", "TIMED_OUT", "DEADLINE_SOON", "OUT_OF_MEMORY", "KICKED", "OK"} {
				if strings.Contains(string(said[k]), word) {
					seen[word]++
				}
			}
		}
	}
	for _, what := range []string{"pieces that are not sent", "INSERTED", "RESERVED", "DELETED", "TIMED_OUT", "DEADLINE_SOON", "OUT_OF_MEMORY", "KICKED", "OK"} {
		if seen[what] < 50 {
			t.Errorf("%s: seen %d times", what, seen[what])
		}
	}
}

// P23.5, R5: however the goroutines run, on one processor and on many, with others that want them, the answer is one.
func TestOneAnswer(t *testing.T) {
	defer runtime.GOMAXPROCS(runtime.GOMAXPROCS(0))
	stop := make(chan struct{})
	var group sync.WaitGroup
	for range 4 {
		group.Go(func() {
			for {
				select {
				case <-stop:
					return
				default:
					runtime.Gosched()
				}
			}
		})
	}
	for seed := range 60 {
		dice := rand.New(rand.NewSource(int64(9000 + seed)))
		c, p := randomConfig(dice), randomPlan(dice)
		for _, n := range []int{1, 2, 3, 8, 32} {
			runtime.GOMAXPROCS(n)
			wantSame(t, fmt.Sprint("seed ", seed, " on ", n), c, p)
		}
	}
	close(stop)
	group.Wait()
}

// R5: halls side by side tell the same of one plan.
func TestSideBySide(t *testing.T) {
	for seed := range 20 {
		dice := rand.New(rand.NewSource(int64(500 + seed)))
		p := randomPlan(dice)
		want, order := plainRun(t, small, p)
		said, turns := make([][][]byte, 16), make([][]api.Turn, 16)
		var group sync.WaitGroup
		for i := range said {
			group.Go(func() { said[i], turns[i], _ = Run(small, p) })
		}
		group.Wait()
		for i := range said {
			if !sameSaid(said[i], want) || !slices.Equal(turns[i], order) {
				t.Fatalf("seed %d: the hall %d tells other things", seed, i)
			}
		}
	}
}

// withEmpty is a plan in which a piece without bytes is put in, with the order of its turns, which has that piece's turn beside those that there were. The piece's turn must stand ahead of its connection's hanging up.
func withEmpty(dice *rand.Rand, p api.Plan, turns []api.Turn, hungAt map[int]int) (api.Plan, []int, bool) {
	if len(p.Pieces) == 0 {
		return p, nil, false
	}
	k := dice.Intn(len(p.Pieces))
	end, hung := hungAt[k]
	if !hung {
		end = len(turns)
	}
	at := dice.Intn(end + 1)
	order, place := []int{}, 0
	for i, x := range turns {
		if i == at {
			order = append(order, k)
		}
		if i < at && x.Conn == k {
			place++
		}
		order = append(order, x.Conn)
	}
	if at == len(turns) {
		order = append(order, k)
	}
	p.Pieces = slices.Clone(p.Pieces)
	p.Pieces[k] = slices.Insert(slices.Clone(p.Pieces[k]), place, []byte{})
	return p, order, true
}

// P23.7: a piece without bytes changes nothing of what is told.
func TestEmptyPieces(t *testing.T) {
	for seed := range 400 {
		dice := rand.New(rand.NewSource(int64(seed)))
		c, p := randomConfig(dice), randomPlan(dice)
		said, turns, _ := Run(c, p)
		for range 4 {
			r := newReplay(t, c, p)
			hungAt := map[int]int{}
			for i, x := range turns {
				r.turn(x)
				for k := range r.hung {
					if _, known := hungAt[k]; !known {
						hungAt[k] = i
					}
				}
			}
			more, order, done := withEmpty(dice, p, turns, hungAt)
			if !done {
				break
			}
			more.Picks = picksFor(t, c, more, order)
			again, longer, err := Run(c, more)
			if err != api.OK || !sameSaid(again, said) || len(longer) != len(turns)+1 {
				t.Fatalf("seed %d: %s, %d; want %s", seed, show(saidText(again)), err, show(saidText(said)))
			}
			for i, x := range longer {
				if x.Conn != order[i] {
					t.Fatalf("seed %d: the turns are %s", seed, turnsText(longer))
				}
			}
			p, turns = more, longer
		}
	}
}

// W1: how the bytes of a connection that is alone are cut is not seen.
func TestPieces(t *testing.T) {
	for seed := range 200 {
		dice := rand.New(rand.NewSource(int64(seed)))
		pieces := randomPieces(dice, 20)
		var whole []byte
		for _, piece := range pieces {
			whole = append(whole, piece...)
		}
		single := slices.Collect(slices.Chunk(whole, 1))
		if len(single) > api.MaxSteps {
			continue
		}
		want, _, _ := Run(small, api.Plan{Pieces: [][][]byte{{whole}}})
		for _, list := range [][][]byte{pieces, single} {
			got, _, err := Run(small, api.Plan{Pieces: [][][]byte{list}, Picks: []int{randomPick(dice)}})
			if err != api.OK || !sameSaid(got, want) {
				t.Fatalf("seed %d: %s, %d; want %s", seed, show(saidText(got)), err, show(saidText(want)))
			}
		}
	}
}

// R1: any plan, with any numbers.
func TestAnything(t *testing.T) {
	numbers := []int{math.MinInt, -1 << 32, -1, 0, 1, 2, 63, 64, 65, 3999, 4000, 4001, 1 << 32, math.MaxInt}
	for seed := range 1500 {
		dice := rand.New(rand.NewSource(int64(seed)))
		c, p := randomConfig(dice), randomPlan(dice)
		number := func() int { return numbers[dice.Intn(len(numbers))] }
		switch dice.Intn(4) {
		case 0:
			c = api.Config{JobMax: number(), Segment: number(), Quota: number()}
			wantRefused(t, c, p, api.ErrConfig)
			continue
		case 1:
			p.Ticks = number()
		case 2:
			p.Pieces = append(p.Pieces, make([][][]byte, dice.Intn(70))...)
		}
		steps := 0
		for _, pieces := range p.Pieces {
			steps += len(pieces)
		}
		if len(p.Pieces) > 64 || p.Ticks < 0 || p.Ticks > 4000-steps {
			wantRefused(t, c, p, api.ErrHallPlan)
			continue
		}
		wantSame(t, fmt.Sprint("seed ", seed), c, p)
	}
}
