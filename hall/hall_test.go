package hall

import (
	"fmt"
	"math"
	"slices"
	"strings"
	"testing"

	"stint/api"
)

// The chapter's examples.
func TestExamples(t *testing.T) {
	two := conns("put 0 0 9 1./x.", "reserve.")
	const both = "INSERTED 1.|RESERVED 1 1.x."
	wantRun(t, ten, api.Plan{Pieces: two}, both, "0:0 0:1 1:0")
	wantRun(t, ten, api.Plan{Pieces: two, Picks: []int{1}}, both, "1:0 0:0 0:1")
	wantRun(t, ten, api.Plan{Pieces: two, Picks: []int{2}, Ticks: 1}, both, "t:0 0:0 0:1 1:0")
	wantRun(t, ten, api.Plan{Pieces: two, Picks: []int{-1, -3}, Ticks: 1}, both, "0:0 t:0 0:1 1:0")
	wantRun(t, ten, api.Plan{Pieces: conns("quit./put 0 0 9 1.", "reserve.")}, "|", "0:0 1:0")
	wantRun(t, ten, api.Plan{Ticks: 2}, "", "t:0 t:1")
	for _, p := range []api.Plan{{Ticks: -1}, {Ticks: 4001}, {Pieces: make([][][]byte, 65)}} {
		wantRefused(t, ten, p, api.ErrHallPlan)
	}
}

// The examples of the whole that a hall can show.
func TestExamplesOfTheWhole(t *testing.T) {
	for _, x := range []struct {
		pieces      [][][]byte
		order       []int
		said, turns string
	}{
		{conns("put 10 0 60 5.hello.", "reserve./delete 1."), []int{0, 1, 1}, "INSERTED 1.|RESERVED 1 5.hello.DELETED.", "0:0 1:0 1:1"},
		{conns("put 10 0 60 5.hello.", "reserve."), []int{1, 0}, "INSERTED 1.|RESERVED 1 5.hello.", "1:0 0:0"},
		{conns("reserve-with-timeout 2.list-tube-used./reserve-with-timeout 0."), []int{0, -1, -1, 0}, "TIMED_OUT.USING default.TIMED_OUT.", "0:0 t:0 t:1 0:1"},
		{conns("put 0 0 3 1.a./reserve.reserve./touch 1./delete 1."), []int{0, 0, -1, -1, -1, 0, 0}, "INSERTED 1.RESERVED 1 1.a.DEADLINE_SOON.NOT_FOUND.DELETED.", "0:0 0:1 t:0 t:1 t:2 0:2 0:3"},
		{conns("put 0 0 1 2./abc\r/\n"), []int{0, 0, 0}, "EXPECTED_CRLF.", "0:0 0:1 0:2"},
		{conns("use a./ignore default./watch a./ignore default."), []int{0, 0, 0, 0}, "USING a.NOT_IGNORED.WATCHING 2.WATCHING 1.", "0:0 0:1 0:2 0:3"},
		{conns("reserve.list-tube-used./use b."), []int{0, 0}, "", "0:0 0:1"},
	} {
		p := api.Plan{Pieces: x.pieces}
		for _, who := range x.order {
			if who < 0 {
				p.Ticks++
			}
		}
		p.Picks = picksFor(t, wide, p, x.order)
		wantRun(t, wide, p, x.said, x.turns)
	}
}

// empty are so many pieces without bytes.
func empty(n int) [][]byte { return make([][]byte, n) }

// P23.1: a config that may not be is refused, ahead of a plan that may not be.
func TestWrongConfig(t *testing.T) {
	for _, c := range []api.Config{{}, {JobMax: 0, Segment: 256, Quota: 1024}, {JobMax: 65536, Segment: 256, Quota: 1024}, {JobMax: 1, Segment: 127, Quota: 1024}, {JobMax: 1, Segment: 257, Quota: 1024}, {JobMax: 1, Segment: 256, Quota: 1<<26 + 1}, {JobMax: -1, Segment: -1, Quota: -1}, {JobMax: math.MaxInt, Segment: math.MaxInt, Quota: math.MaxInt}} {
		for _, p := range []api.Plan{{}, {Pieces: conns("stats."), Ticks: 3}, {Ticks: -1}, {Ticks: 4001}, {Pieces: make([][][]byte, 65)}, {Pieces: [][][]byte{empty(4001)}}} {
			wantRefused(t, c, p, api.ErrConfig)
		}
	}
	for _, c := range []api.Config{{JobMax: 1, Segment: 128, Quota: 1024}, {JobMax: 65535, Segment: 1 << 20, Quota: 1 << 26}, {JobMax: 1, Segment: 256, Quota: 1024}} {
		wantRun(t, c, api.Plan{Pieces: conns("put 0 0 9 1.x.")}, "INSERTED 1.", "0:0")
	}
}

// P23.1: more connections than may be, also those without pieces.
func TestManyConnections(t *testing.T) {
	for _, n := range []int{65, 66, 128, 256, 4000, 4001, 100000} {
		wantRefused(t, ten, api.Plan{Pieces: make([][][]byte, n)}, api.ErrHallPlan)
		wantRefused(t, ten, api.Plan{Pieces: append(conns("quit."), make([][][]byte, n-1)...)}, api.ErrHallPlan)
	}
	for _, n := range []int{0, 1, 2, 63, 64} {
		wantRun(t, ten, api.Plan{Pieces: make([][][]byte, n)}, strings.Repeat("|", max(0, n-1)), "")
		list, said, turns := []string{}, []string{}, []string{}
		for k := range n {
			list = append(list, fmt.Sprint("use t", k, "."))
			said = append(said, fmt.Sprint("USING t", k, "."))
			turns = append(turns, fmt.Sprint(k, ":0"))
		}
		wantRun(t, ten, api.Plan{Pieces: conns(list...)}, strings.Join(said, "|"), strings.Join(turns, " "))
	}
}

// P23.1: ticks below 0, whatever else there is.
func TestTicksBelowZero(t *testing.T) {
	for _, n := range []int{-1, -2, -4000, -4001, -1 << 31, -1 << 32, -1<<32 + 1, math.MinInt, math.MinInt + 1} {
		for _, pieces := range [][][][]byte{nil, conns("stats."), {empty(3), empty(2)}, {empty(4000)}, {empty(4001)}, make([][][]byte, 65)} {
			wantRefused(t, ten, api.Plan{Pieces: pieces, Ticks: n}, api.ErrHallPlan)
		}
	}
}

// P23.1: as many steps as may be, and more of them; a sum never wraps round.
func TestManySteps(t *testing.T) {
	for _, x := range []struct {
		ticks int
		sizes []int
		right bool
	}{
		{0, nil, true}, {1, nil, true}, {3999, nil, true}, {4000, nil, true}, {4001, nil, false}, {4002, nil, false},
		{0, []int{4000}, true}, {0, []int{4001}, false}, {1, []int{3999}, true}, {1, []int{4000}, false},
		{4000, []int{0, 0, 0}, true}, {4000, []int{0, 0, 1}, false}, {3999, []int{0, 1, 0}, true}, {3999, []int{1, 0, 1}, false},
		{0, []int{2000, 2000}, true}, {0, []int{2000, 2001}, false}, {0, []int{2001, 2000}, false}, {1000, []int{1000, 1000, 1000}, true}, {1000, []int{1000, 1001, 1000}, false},
		{0, []int{0, 5000, 0}, false}, {0, []int{100000}, false},
		{math.MaxInt, nil, false}, {math.MaxInt, []int{1}, false}, {math.MaxInt, []int{1, 4000}, false}, {math.MaxInt - 1, []int{2}, false}, {math.MaxInt - 5000, []int{3000, 3000}, false},
		{1 << 32, nil, false}, {1<<32 + 1, []int{5}, false}, {1 << 62, nil, false}, {1 << 31, nil, false}, {1 << 16, nil, false},
	} {
		p := api.Plan{Ticks: x.ticks}
		sum := x.ticks
		for _, n := range x.sizes {
			p.Pieces = append(p.Pieces, empty(n))
			sum += n
		}
		if !x.right {
			wantRefused(t, ten, p, api.ErrHallPlan)
			continue
		}
		if _, turns := wantSame(t, fmt.Sprint(x.ticks, x.sizes), ten, p); len(turns) != sum {
			t.Errorf("Ticks %d, pieces %v: %d turns", x.ticks, x.sizes, len(turns))
		}
	}
	sixty := make([][][]byte, 64)
	for k := range sixty {
		sixty[k] = empty(62)
	}
	wantSame(t, "64 connections", ten, api.Plan{Pieces: sixty, Ticks: 32, Picks: []int{5, 77, -3}})
	wantRefused(t, ten, api.Plan{Pieces: sixty, Ticks: 33}, api.ErrHallPlan)
	sixty[63] = empty(63)
	wantRefused(t, ten, api.Plan{Pieces: sixty, Ticks: 32}, api.ErrHallPlan)
}

// P23.1: neither how many picks there are, nor what they are, is a ground to refuse.
func TestPicksAreNeverRefused(t *testing.T) {
	many := make([]int, 100000)
	for i := range many {
		many[i] = 1
	}
	wantTurns(t, api.Plan{Picks: many}, "")
	wantTurns(t, api.Plan{Pieces: [][][]byte{empty(2), empty(1)}, Picks: many}, "1:0 0:0 0:1")
	wantTurns(t, api.Plan{Pieces: [][][]byte{empty(1), empty(1)}, Picks: many, Ticks: 1}, "1:0 t:0 0:0")
}

// P23.2: which candidate a pick means, above 0, below it and at the ends of the numbers.
func TestPicks(t *testing.T) {
	three := [][][]byte{empty(1), empty(1), empty(1)}
	for _, x := range []struct {
		pick int
		who  int // with four candidates, of which the last one is the clock
	}{
		{0, 0}, {1, 1}, {2, 2}, {3, -1}, {4, 0}, {5, 1}, {7, -1}, {1000, 0}, {1 << 32, 0}, {1<<32 + 1, 1}, {1<<62 + 2, 2}, {math.MaxInt, -1}, {math.MaxInt - 1, 2}, {math.MaxInt - 3, 0},
		{-1, 0}, {-2, 1}, {-3, 2}, {-4, -1}, {-5, 0}, {-6, 1}, {-1 << 32, -1}, {-1<<32 - 1, 0}, {math.MinInt, -1}, {math.MinInt + 1, 2}, {math.MinInt + 2, 1}, {math.MinInt + 3, 0},
	} {
		_, turns, err := Run(ten, api.Plan{Pieces: three, Picks: []int{x.pick}, Ticks: 1})
		if err != api.OK || len(turns) != 4 || turns[0] != (api.Turn{Conn: x.who}) {
			t.Errorf("the pick %d: %s, %d; want %d first", x.pick, turnsText(turns), err, x.who)
		}
	}
	for n := 1; n <= 64; n++ {
		pieces := make([][][]byte, n)
		for k := range pieces {
			pieces[k] = empty(1)
		}
		for _, pick := range []int{0, 1, n - 1, n, n + 1, 100, 12345, math.MaxInt, -1, -2, -n, -n - 1, -12345, math.MinInt} {
			for ticks := range 2 {
				_, turns, _ := Run(ten, api.Plan{Pieces: pieces, Picks: []int{pick}, Ticks: ticks})
				want := place(pick, n+ticks)
				if want == n {
					want = -1
				}
				if len(turns) != n+ticks || turns[0].Conn != want {
					t.Fatalf("the pick %d of %d: %s", pick, n+ticks, turnsText(turns))
				}
			}
		}
	}
}

// P23.2: picks are taken one a turn, from the first one on, and behind the last one from the first one again; 0 without any.
func TestPicksGoRound(t *testing.T) {
	two := [][][]byte{empty(3), empty(3)}
	for _, x := range []struct {
		picks []int
		turns string
	}{
		{nil, "0:0 0:1 0:2 1:0 1:1 1:2"},
		{[]int{}, "0:0 0:1 0:2 1:0 1:1 1:2"},
		{[]int{0}, "0:0 0:1 0:2 1:0 1:1 1:2"},
		{[]int{1}, "1:0 1:1 1:2 0:0 0:1 0:2"},
		{[]int{0, 1}, "0:0 1:0 0:1 1:1 0:2 1:2"},
		{[]int{1, 0}, "1:0 0:0 1:1 0:1 1:2 0:2"},
		{[]int{1, 0, 0}, "1:0 0:0 0:1 1:1 0:2 1:2"},
		{[]int{1, 1, 0, 0, 0}, "1:0 1:1 0:0 0:1 0:2 1:2"},
		{[]int{0, 0, 1, 1, 0, 1}, "0:0 0:1 1:0 1:1 0:2 1:2"},
		{[]int{0, 0, 1, 1, 1, 1, 9, 9, 9}, "0:0 0:1 1:0 1:1 1:2 0:2"},
	} {
		wantTurns(t, api.Plan{Pieces: two, Picks: x.picks}, x.turns)
	}
	// The clock's turns take picks, too.
	wantTurns(t, api.Plan{Pieces: two, Picks: []int{2, 0, 1}, Ticks: 2}, "t:0 0:0 1:0 t:1 0:1 1:1 0:2 1:2")
}

// P23.2: the candidates are those that have pieces left, by their numbers, and behind them the clock while it may tick.
func TestCandidates(t *testing.T) {
	pieces := [][][]byte{nil, empty(2), {}, empty(1), empty(1), nil}
	wantTurns(t, api.Plan{Pieces: pieces}, "1:0 1:1 3:0 4:0")
	wantTurns(t, api.Plan{Pieces: pieces, Picks: []int{2}}, "4:0 1:0 1:1 3:0")
	wantTurns(t, api.Plan{Pieces: pieces, Picks: []int{1}}, "3:0 4:0 1:0 1:1")
	wantTurns(t, api.Plan{Pieces: pieces, Picks: []int{3}, Ticks: 2}, "t:0 t:1 1:0 1:1 4:0 3:0")
	wantTurns(t, api.Plan{Pieces: pieces, Picks: []int{2}, Ticks: 2}, "4:0 t:0 t:1 1:0 1:1 3:0")
	wantTurns(t, api.Plan{Pieces: pieces, Picks: []int{0, 3}, Ticks: 2}, "1:0 t:0 1:1 3:0 4:0 t:1")
	wantTurns(t, api.Plan{Pieces: pieces, Ticks: 3}, "1:0 1:1 3:0 4:0 t:0 t:1 t:2")
	wantTurns(t, api.Plan{Pieces: make([][][]byte, 9), Ticks: 3, Picks: []int{8}}, "t:0 t:1 t:2")
	wantTurns(t, api.Plan{}, "")
}

// P23.2: one that was hung up has no turns any more, in whoever's turn that was.
func TestHungUp(t *testing.T) {
	for _, x := range []struct {
		what        string
		pieces      [][][]byte
		picks       []int
		ticks       int
		said, turns string
	}{
		{"by its own piece", conns("use a./use b.quit.use c./use d./use e.", "use f."), nil, 0, "USING a.USING b.|USING f.", "0:0 0:1 1:0"},
		{"by its last piece", conns("use a./quit.", "use f."), nil, 0, "USING a.|USING f.", "0:0 0:1 1:0"},
		{"by a quit in pieces", conns("qu/it/\r/\n/use b.", "use f."), nil, 0, "|USING f.", "0:0 0:1 0:2 0:3 1:0"},
		{"in another's turn", conns("reserve.quit./use a./use b.", "put 0 0 9 1.x./use f."), []int{0, 1, 0}, 0, "RESERVED 1 1.x.|INSERTED 1.USING f.", "0:0 1:0 1:1"},
		{"in another's turn, without pieces left", conns("reserve.quit.", "put 0 0 9 1.x./use f."), nil, 0, "RESERVED 1 1.x.|INSERTED 1.USING f.", "0:0 1:0 1:1"},
		{"by a tick", conns("reserve-with-timeout 2.quit./use a./use b.", "use f."), []int{0, 2, 2, 0}, 3, "TIMED_OUT.|USING f.", "0:0 t:0 t:1 1:0 t:2"},
		{"by the last tick", conns("reserve-with-timeout 1.quit./use a./use b."), []int{0, 1}, 1, "TIMED_OUT.", "0:0 t:0"},
		{"by a piece that its connection has said while it waits", conns("reserve./quit./use a.", "put 0 0 9 1.x."), []int{0, 0, 1, 0}, 0, "RESERVED 1 1.x.|INSERTED 1.", "0:0 0:1 1:0"},
		{"two in one turn", conns("reserve.quit./use a.", "reserve.quit./use a.", "put 0 0 9 1.x.put 0 0 9 1.y./use f."), []int{0, 1, 2, 0}, 1, "RESERVED 1 1.x.|RESERVED 1 1.x.|INSERTED 1.INSERTED 2.USING f.", "0:0 1:0 2:0 2:1 t:0"},
		{"one by the other's going", conns("put 0 0 9 1.x.reserve./quit./use a.", "reserve.quit./use a.", "use f."), []int{0, 1, 0}, 0, "INSERTED 1.RESERVED 1 1.x.|RESERVED 1 1.x.|USING f.", "0:0 1:0 0:1 2:0"},
		{"all at once", conns("quit./use a.", "quit./use a.", "quit./use a."), []int{2, 1, 0}, 0, "||", "2:0 1:0 0:0"},
		{"the last one", conns("use f.", "use a.", "quit./use a."), []int{2}, 1, "USING f.|USING a.|", "2:0 t:0 0:0 1:0"},
	} {
		t.Run(x.what, func(t *testing.T) {
			wantRun(t, ten, api.Plan{Pieces: x.pieces, Picks: x.picks, Ticks: x.ticks}, x.said, x.turns)
		})
	}
}

// figure is a number that a text of stats has.
func figure(t *testing.T, said []byte, key string) string {
	t.Helper()
	_, rest, there := strings.Cut(string(said), "\n"+key+": ")
	if !there {
		t.Fatalf("there is no %s in %q", key, said)
	}
	value, _, _ := strings.Cut(rest, "\n")
	return value
}

// P23.2: the house is new at the clock 0, and all connections, also those without pieces, come ahead of the first turn.
func TestBeginning(t *testing.T) {
	for n := 1; n <= 64; n++ {
		pieces := make([][][]byte, n)
		who := n / 3
		pieces[who] = [][]byte{text("put 0 0 9 0.."), text("stats-job 1."), text("stats.")}
		said, turns, err := Run(ten, api.Plan{Pieces: pieces})
		if err != api.OK || len(turns) != 3 {
			t.Fatalf("%s, %d", turnsText(turns), err)
		}
		for key, want := range map[string]string{"current-connections": fmt.Sprint(n), "total-connections": fmt.Sprint(n), "uptime": "0", "current-waiting": "0", "max-job-size": "10", "binlog-max-size": "256", "cmd-put": "1", "age": "0", "draining": "false"} {
			if got := figure(t, said[who], key); got != want {
				t.Errorf("of %d connections %d is told %s %s; want %s", n, who, key, got, want)
			}
		}
	}
}

// P23.2: the clock's turn is the house's Tick, and no other turn is one.
func TestClock(t *testing.T) {
	p := api.Plan{Pieces: conns("put 0 0 9 0../stats-job 1./stats."), Ticks: 7}
	for _, x := range []struct {
		order       []int
		age, uptime string
	}{
		{[]int{0, 0, 0, -1, -1, -1, -1, -1, -1, -1}, "0", "0"},
		{[]int{0, -1, -1, 0, 0, -1, -1, -1, -1, -1}, "2", "2"},
		{[]int{-1, 0, -1, -1, 0, -1, 0, -1, -1, -1}, "2", "4"},
		{[]int{-1, -1, -1, 0, -1, -1, -1, -1, 0, 0}, "4", "7"},
	} {
		p.Picks = picksFor(t, ten, p, x.order)
		said, turns, _ := Run(ten, p)
		if figure(t, said[0], "age") != x.age || figure(t, said[0], "uptime") != x.uptime || len(turns) != 10 {
			t.Errorf("%v: %s", x.order, saidText(said))
		}
	}
	wantRun(t, ten, api.Plan{Pieces: conns("put 0 3 9 1.x.", "reserve."), Ticks: 4}, "INSERTED 1.|RESERVED 1 1.x.", "0:0 1:0 t:0 t:1 t:2 t:3")
	wantRun(t, ten, api.Plan{Pieces: conns("put 0 3 9 1.x.", "reserve."), Ticks: 2}, "INSERTED 1.|", "0:0 1:0 t:0 t:1")
}

// P23.2: one that has no pieces left is there still: it waits, holds its jobs, and is told what comes.
func TestNoPiecesLeft(t *testing.T) {
	wantRun(t, ten, api.Plan{Pieces: conns("put 0 0 9 1.x.reserve.", "reserve-with-timeout 0.")}, "INSERTED 1.RESERVED 1 1.x.|TIMED_OUT.", "0:0 1:0")
	wantRun(t, ten, api.Plan{Pieces: conns("reserve.use a.list-tube-used.", "put 0 0 9 1.x.")}, "RESERVED 1 1.x.USING a.USING a.|INSERTED 1.", "0:0 1:0")
	wantRun(t, ten, api.Plan{Pieces: conns("reserve-with-timeout 2.use a."), Ticks: 2}, "TIMED_OUT.USING a.", "0:0 t:0 t:1")
	// What holds the job goes when its time is over, not when its pieces are.
	wantRun(t, ten, api.Plan{Pieces: conns("put 0 0 3 1.x.reserve.", "reserve."), Ticks: 2}, "INSERTED 1.RESERVED 1 1.x.|", "0:0 1:0 t:0 t:1")
	wantRun(t, ten, api.Plan{Pieces: conns("put 0 0 3 1.x.reserve.", "reserve."), Ticks: 3}, "INSERTED 1.RESERVED 1 1.x.|RESERVED 1 1.x.", "0:0 1:0 t:0 t:1 t:2")
	// A command that is not whole when all is over is not done.
	wantRun(t, ten, api.Plan{Pieces: conns("use a./use b\r", "put 0 0 9 1.x\r")}, "USING a.|", "0:0 0:1 1:0")
}

// P23.3: what is said to each connection, in whoever's turns, joined in its order; acts are let by.
func TestSaid(t *testing.T) {
	wantRun(t, ten, api.Plan{
		Pieces: conns("watch a.reserve./use x.", "use a./put 1 0 9 1.b.put 0 0 9 1.a./kick 9.", "", "reserve.watch a./delete 1.delete 2./bury 1 0."),
		Picks:  []int{0, 1, 2, 1, 0, 1},
	}, "WATCHING 2.RESERVED 1 1.b.USING x.|USING a.INSERTED 1.INSERTED 2.KICKED 0.||", "0:0 1:0 3:0 1:1 0:1 3:1 1:2 3:2")
	wantRun(t, ten, api.Plan{Pieces: conns("put 0 0 9 11.hello, you!./nonsense./put 0 0 1 x./put 0 0 1 1.xyz./" + strings.Repeat("l", 300) + ".")}, "JOB_TOO_BIG.UNKNOWN_COMMAND.BAD_FORMAT.EXPECTED_CRLF.UNKNOWN_COMMAND.BAD_FORMAT.", "0:0 0:1 0:2 0:3 0:4")
}

// P23.3: a full house says so; what has to be done to files is nowhere told.
func TestFull(t *testing.T) {
	puts := strings.TrimSuffix(strings.Repeat("put 0 0 9 1.x./", 6), "/")
	said := "INSERTED 1.INSERTED 2.INSERTED 3." + strings.Repeat("OUT_OF_MEMORY.", 3)
	wantRun(t, ten, api.Plan{Pieces: conns(puts, "delete 1.delete 2./delete 3.put 0 0 9 1.y.")}, said+"|DELETED.DELETED.DELETED.INSERTED 4.", "0:0 0:1 0:2 0:3 0:4 0:5 1:0 1:1")
}

// P23.2, P23.3: the same pieces in all orders of their turns: what is said hangs on these alone.
func TestAllOrders(t *testing.T) {
	p := api.Plan{Pieces: conns("put 0 0 2 1./x.use a./reserve.quit./use b.", "reserve./delete 1.", "put 1 0 1 0../reserve-with-timeout 1."), Ticks: 2}
	orders := 0
	var walk func(order []int)
	walk = func(order []int) {
		x := newPlain(t, ten, p)
		for _, who := range order {
			x.turn(who)
		}
		list := x.candidates()
		for _, who := range list {
			walk(append(slices.Clone(order), who))
		}
		if len(list) > 0 {
			return
		}
		orders++
		p := p
		p.Picks = picksFor(t, ten, p, order)
		said, turns, err := Run(ten, p)
		if err != api.OK || !sameSaid(said, x.said) || !slices.Equal(turns, x.turns) {
			t.Fatalf("%v: %s, %s, %d; want %s", order, saidText(said), turnsText(turns), err, saidText(x.said))
		}
	}
	walk(nil)
	if orders < 5000 {
		t.Errorf("there are %d orders", orders)
	}
}
