package weave

import (
	"bytes"
	"fmt"
	"math"
	"math/big"
	"slices"
	"strings"
	"testing"

	"stint/api"
)

// The chapter's examples.
func TestExamples(t *testing.T) {
	for _, x := range []struct {
		pieces [][][]byte
		many   int
		want   []string
	}{
		{nil, 1, []string{""}},
		{conns("use a."), 1, []string{"USING a."}},
		{conns("use /a.", "use b."), 3, []string{"USING a.|USING b."}},
		{conns("put 0 0 9 1.x.", "reserve-with-timeout 0."), 2, []string{"INSERTED 1.|RESERVED 1 1.x.", "INSERTED 1.|TIMED_OUT."}},
		{conns("put 0 0 9 1.x.", "reserve."), 2, []string{"INSERTED 1.|RESERVED 1 1.x."}},
		{conns("put 0 0 9 1.x.", "put 0 0 9 1.y."), 2, []string{"INSERTED 1.|INSERTED 2.", "INSERTED 2.|INSERTED 1."}},
	} {
		wantMany(t, x.pieces, x.many)
		wantAll(t, chapters, x.pieces, x.want...)
	}
	wantRefused(t, chapters, sized(0, 0, 0, 0, 0), 1, api.ErrWeavePlan)
	wantRefused(t, chapters, sized(13, 13), 1, api.ErrWeaveMany)
}

// manyOf is how many orders there are, here with numbers that have no end; 0, if these are too many.
func manyOf(sizes []int) int {
	sum := 0
	for _, n := range sizes {
		sum += n
	}
	all := new(big.Int).MulRange(1, int64(sum))
	for _, n := range sizes {
		all.Div(all, new(big.Int).MulRange(1, int64(n)))
	}
	if all.Cmp(big.NewInt(5000)) > 0 {
		return 0
	}
	return int(all.Int64())
}

// P24.1: how many orders there are, up to 5000, and above.
func TestMany(t *testing.T) {
	for _, x := range []struct {
		sizes []int
		want  int
	}{
		{nil, 1}, {[]int{0}, 1}, {[]int{0, 0, 0, 0, 0, 0}, 1}, {[]int{1}, 1}, {[]int{5000}, 1}, {[]int{5001}, 1}, {[]int{0, 100000, 0}, 1},
		{[]int{1, 1}, 2}, {[]int{2, 1}, 3}, {[]int{1, 2}, 3}, {[]int{2, 2}, 6}, {[]int{1, 1, 1}, 6}, {[]int{2, 1, 1}, 12}, {[]int{3, 2, 1, 1}, 420},
		{[]int{1, 0, 1, 0, 1}, 6}, {[]int{1, 1, 1, 1, 1, 1}, 720}, {[]int{1, 1, 1, 1, 1, 1, 1}, 0},
		{[]int{4999, 1}, 5000}, {[]int{1, 4999}, 5000}, {[]int{0, 4999, 0, 1, 0}, 5000}, {[]int{5000, 1}, 0}, {[]int{1, 5000}, 0}, {[]int{1, 0, 5000}, 0},
		{[]int{4999, 2}, 0}, {[]int{2, 4999}, 0}, {[]int{4999, 1, 1}, 0}, {[]int{0, 4999, 0, 3, 2}, 0},
		{[]int{98, 2}, 4950}, {[]int{2, 98}, 4950}, {[]int{99, 2}, 0}, {[]int{2, 99}, 0},
		{[]int{29, 3}, 4960}, {[]int{30, 3}, 0}, {[]int{16, 4}, 4845}, {[]int{17, 4}, 0}, {[]int{10, 5}, 3003}, {[]int{11, 5}, 4368}, {[]int{12, 5}, 0},
		{[]int{7, 7}, 3432}, {[]int{8, 6}, 3003}, {[]int{9, 6}, 0}, {[]int{8, 7}, 0}, {[]int{13, 13}, 0}, {[]int{4, 4, 2}, 3150}, {[]int{2, 2, 2, 2}, 2520}, {[]int{3, 2, 2, 2}, 0},
		{[]int{69, 1, 1}, 4970}, {[]int{70, 1, 1}, 0}, {[]int{16, 1, 1, 1}, 0}, {[]int{15, 1, 1, 1}, 4896},
	} {
		wantMany(t, sized(x.sizes...), x.want)
		if x.want != manyOf(x.sizes) {
			t.Errorf("%v: the test asks for %d, there are %d", x.sizes, x.want, manyOf(x.sizes))
		}
	}
}

// P24.1: numbers that no int can hold are more than 5000, whatever they are when they are wrapped round.
func TestManyDoesNotWrap(t *testing.T) {
	for n := 7; n < 300; n++ {
		wantMany(t, slices.Repeat(sized(1), n), 0)
		wantMany(t, slices.Repeat(sized(2), n), 0)
		wantMany(t, sized(n, n, n), 0)
		wantMany(t, sized(n+7, n+7), 0)
	}
	for _, n := range []int{1 << 16, 1 << 20, 1<<21 + 1} {
		wantMany(t, sized(n), 1)
		wantMany(t, sized(0, n, 0), 1)
		for _, more := range []int{1, 2, 5, 100, n - 1, n} {
			wantMany(t, sized(n, more), 0)
			wantMany(t, sized(more, n), 0)
			wantMany(t, sized(more, n, more), 0)
		}
		wantMany(t, slices.Repeat(sized(n), 300), 0) // one list, 300 times
	}
	wantMany(t, make([][][]byte, 1<<20), 1)
}

// P24.1: all small sizes of up to four connections, and of two all that are near 5000.
func TestManyOfAll(t *testing.T) {
	for a := range 9 {
		for b := range 9 {
			for c := range 6 {
				for d := range 4 {
					wantMany(t, sized(a, b, c, d), manyOf([]int{a, b, c, d}))
				}
			}
		}
	}
	for a := range 24 {
		for b := range 130 {
			wantMany(t, sized(a, b), manyOf([]int{a, b}))
			wantMany(t, sized(b, a), manyOf([]int{b, a}))
		}
	}
}

// P24.1: the orders are just those that there are, each once; that they rise is of no weight.
func TestOrders(t *testing.T) {
	for _, sizes := range [][]int{nil, {0}, {1}, {5}, {0, 3, 0}, {1, 1}, {0, 1, 0, 1}, {3, 2}, {2, 3}, {1, 1, 1, 1}, {2, 0, 1, 2}, {3, 1, 2, 1}, {5, 5}, {9, 3}} {
		pieces := sized(sizes...)
		w := newPlain(t, tight, pieces)
		order := firstOrder(pieces)
		got := [][]int{slices.Clone(order)}
		for advance(order) {
			got = append(got, slices.Clone(order))
		}
		if !slices.Equal(order, got[len(got)-1]) {
			t.Errorf("%v: the last order has changed: %v", sizes, order)
		}
		slices.SortFunc(got, slices.Compare)
		slices.SortFunc(w.orders, slices.Compare)
		if !slices.EqualFunc(got, w.orders, slices.Equal) {
			t.Errorf("%v: the orders are %v; want %v", sizes, got, w.orders)
		}
		wantMany(t, pieces, len(got))
	}
}

// P24.1, P24.3: each order is played, also the first and the last one, with as many orders as may be.
func TestEachOrderIsPlayed(t *testing.T) {
	// The outcome tells at which of the 70 places the put came, and how often the job was not there.
	pieces := [][][]byte{slices.Repeat(conns("peek 1.")[0], 69), conns("put 0 0 9 0..")[0]}
	var want []string
	for n := 69; n >= 0; n-- { // FOUND is ahead of NOT_FOUND
		want = append(want, strings.Repeat("NOT_FOUND.", 69-n)+strings.Repeat("FOUND 1 0..", n)+"|INSERTED 1.")
	}
	wantAll(t, tight, pieces, want...)
	// The order can be read off the outcome: each put is told its place among all.
	for _, sizes := range [][]int{{7, 7}, {11, 5}, {2, 2, 2, 2}, {4, 4, 2}} {
		pieces = nil
		for _, n := range sizes {
			pieces = append(pieces, slices.Repeat(conns("put 0 0 9 0..")[0], n))
		}
		orders, _ := Many(pieces)
		if got := wantSame(t, fmt.Sprint(sizes), wide, pieces, 8); len(got) != orders {
			t.Errorf("%v: %d outcomes of %d orders", sizes, len(got), orders)
		}
	}
}

// P24.2: the house is new at the clock 0, and all connections, also those without pieces, come ahead of the first piece.
func TestBeginning(t *testing.T) {
	for n := range 5 {
		h := newHouse(tight, n)
		if h.Now() != 0 || len(h.Conns()) != n || len(h.Jobs()) != 0 {
			t.Errorf("of %d: the clock is %d, there are %v", n, h.Now(), h.Conns())
		}
		for conn := range n {
			pieces := make([][][]byte, n)
			pieces[conn] = conns("stats.")[0]
			got, err := All(tight, pieces, 2)
			if err != api.OK || len(got) != 1 {
				t.Fatalf("%s, %d", show(got), err)
			}
			for _, line := range []string{"current-connections: ", "total-connections: "} {
				if line = fmt.Sprint("\n", line, n, "\n"); !bytes.Contains(got[0][conn], []byte(line)) {
					t.Errorf("of %d connections %d is told %q", n, conn, got[0][conn])
				}
			}
			for _, line := range []string{"\nuptime: 0\n", "\ncmd-stats: 1\n", "\nmax-job-size: 10\n", "\nbinlog-max-size: 256\n"} {
				if !bytes.Contains(got[0][conn], []byte(line)) {
					t.Errorf("there is no %q in %q", line, got[0][conn])
				}
			}
		}
	}
}

// P24.2: each order has a house of its own: no job, no id and no count is left of another one.
func TestHouseOfItsOwn(t *testing.T) {
	wantAll(t, chapters, conns("put 0 0 9 1.x.", "/", "/"), "INSERTED 1.||")
	wantAll(t, chapters, conns("put 0 0 9 1.x./delete 1.", "kick 1./kick 1."), "INSERTED 1.DELETED.|KICKED 0.KICKED 0.")
	// Three of four puts find room, in each order anew.
	wantAll(t, tight, conns("put 0 0 9 1.x.put 0 0 9 1.x./put 0 0 9 1.x.put 0 0 9 1.x.", "//"), "INSERTED 1.INSERTED 2.INSERTED 3.OUT_OF_MEMORY.|")
}

// P24.2: what comes from one that was hung up is let by, and takes its place in the order all the same.
func TestHungUp(t *testing.T) {
	wantMany(t, conns("quit./use a.", "use b."), 3)
	wantAll(t, chapters, conns("quit./use a.", "use b."), "|USING b.")
	wantAll(t, chapters, conns("use a.quit.use b./use c.", "quit."), "USING a.|")
	wantAll(t, chapters, conns("qu/it./use a./use c."), "")
	// In another's piece: it is told, and hung up, when the put comes; its use is done in no order.
	wantAll(t, chapters, conns("reserve.quit./use a.", "put 0 0 9 1.x."), "RESERVED 1 1.x.|INSERTED 1.")
	// What it held is ready again.
	wantAll(t, chapters, conns("put 0 0 9 1.x.reserve./quit.", "reserve-with-timeout 0."),
		"INSERTED 1.RESERVED 1 1.x.|RESERVED 1 1.x.", "INSERTED 1.RESERVED 1 1.x.|TIMED_OUT.")
	// Nobody else is let by with it.
	wantAll(t, chapters, conns("quit./use a.", "use b./quit./use c.", "use d./use e."), "|USING b.|USING d.USING e.")
}

// P24.2: what is said to each connection, in whoever's pieces, joined in its order; nothing else of what comes of them.
func TestSaid(t *testing.T) {
	wantAll(t, chapters, conns("put 0 0 9 1.x.use a.list-tube-used.nonsense.put 0 0 1 x.put 0 0 9 101."+strings.Repeat("b", 101)+".put 0 0 9 1.xyz."),
		"INSERTED 1.USING a.USING a.UNKNOWN_COMMAND.BAD_FORMAT.JOB_TOO_BIG.EXPECTED_CRLF.UNKNOWN_COMMAND.")
	// A reserve that waits is answered in another's piece; what its connection has said meanwhile is done behind it.
	wantAll(t, chapters, conns("reserve.use a./list-tube-used.", "put 0 0 9 1.x."), "RESERVED 1 1.x.USING a.USING a.|INSERTED 1.")
	// Two wait: each of them may be the first one.
	wantAll(t, chapters, conns("reserve.", "reserve.", "put 0 0 9 1.x."), "|RESERVED 1 1.x.|INSERTED 1.", "RESERVED 1 1.x.||INSERTED 1.")
}

// P24.3: outcomes that are unlike are told each once, also where what was said to all, joined, is the same.
func TestUnlike(t *testing.T) {
	wantAll(t, chapters, conns("reserve.", "reserve.", "put 0 0 9 1.x."), "|RESERVED 1 1.x.|INSERTED 1.", "RESERVED 1 1.x.||INSERTED 1.")
	wantAll(t, chapters, conns("", "reserve.", "put 0 0 9 1.x.reserve."), "||INSERTED 1.RESERVED 1 1.x.", "|RESERVED 1 1.x.|INSERTED 1.")
	wantAll(t, chapters, conns("use a./use a.", "use a./use a.", "use b./use b."), "USING a.USING a.|USING a.USING a.|USING b.USING b.")
}

// P24.3: outcomes are sorted by what was said to 0, of equals by what was said to 1, and so on.
func TestSorted(t *testing.T) {
	// Each is told an id of 1 to 4: all orders of four.
	var want []string
	for a := range 4 {
		for b := range 4 {
			for c := range 4 {
				for d := range 4 {
					if 1<<a|1<<b|1<<c|1<<d == 15 {
						want = append(want, fmt.Sprintf("INSERTED %d.|INSERTED %d.|INSERTED %d.|INSERTED %d.", a+1, b+1, c+1, d+1))
					}
				}
			}
		}
	}
	wantAll(t, chapters, conns("put 0 0 9 0..", "put 0 0 9 0..", "put 0 0 9 0..", "put 0 0 9 0.."), want...)
	// Byte by byte, not as numbers: 10 is ahead of 9.
	nine := slices.Repeat(conns("put 0 0 9 0..")[0], 9)
	want = []string{"INSERTED 1.", "INSERTED 10."}
	for n := 2; n < 10; n++ {
		want = append(want, fmt.Sprintf("INSERTED %d.", n))
	}
	got, _ := All(wide, [][][]byte{conns("put 0 0 9 0..")[0], nine}, 3)
	for i, said := range got {
		if i >= len(want) || saidText(said[:1]) != want[i] {
			t.Errorf("at %d: %s", i, saidText(said[:1]))
		}
	}
	if len(got) != 10 {
		t.Errorf("%d outcomes", len(got))
	}
}

// P24.3: bytes are numbers of 0 to 255.
func TestSortedByBytes(t *testing.T) {
	bodies := []string{"\x00", "\n", " ", "A", "a", "\x7f", "\x80", "\xc3", "\xe9", "\xff"}
	for i, y := range bodies {
		for _, x := range bodies[:i] { // x is the smaller one; reserved is the job that was put first
			putX, putY := "put 5 0 9 1."+x+".", "put 5 0 9 1."+y+"."
			wantAll(t, chapters, conns("reserve.", putX, putY), "RESERVED 1 1."+x+".|INSERTED 1.|INSERTED 2.", "RESERVED 1 1."+y+".|INSERTED 2.|INSERTED 1.")
			wantAll(t, chapters, conns("reserve.", putY, putX), "RESERVED 1 1."+x+".|INSERTED 2.|INSERTED 1.", "RESERVED 1 1."+y+".|INSERTED 1.|INSERTED 2.")
		}
	}
}

// P24.3: a beginning is ahead of what it begins, whatever is said to others.
func TestSortedBeginnings(t *testing.T) {
	const first, second = "USING a.|RESERVED 1 1.x.|INSERTED 1.", "USING a.RESERVED 1 1.x.|TIMED_OUT.|INSERTED 1."
	wantAll(t, chapters, conns("use a.reserve.", "reserve-with-timeout 0.", "put 0 0 9 1.x."), first, second)
	wantAll(t, chapters, conns("", "use a.reserve.", "reserve-with-timeout 0.", "put 0 0 9 1.x."), "|"+first, "|"+second)
	// Of those that are told the same the next one tells.
	wantAll(t, chapters, conns("put 0 0 9 1.x.", "reserve-with-timeout 0.", "use a.reserve."),
		"INSERTED 1.|RESERVED 1 1.x.|USING a.", "INSERTED 1.|TIMED_OUT.|USING a.RESERVED 1 1.x.")
}

// P24.3: a config that may not be is refused ahead of all else.
func TestWrongConfig(t *testing.T) {
	for _, c := range []api.Config{{}, {JobMax: 0, Segment: 256, Quota: 1024}, {JobMax: 65536, Segment: 256, Quota: 1024}, {JobMax: 1, Segment: 127, Quota: 1024}, {JobMax: 1, Segment: 257, Quota: 1024}, {JobMax: 1, Segment: 256, Quota: 1<<26 + 1}, {JobMax: -1, Segment: -1, Quota: -1}, {JobMax: math.MaxInt, Segment: math.MaxInt, Quota: math.MaxInt}} {
		for _, pieces := range [][][][]byte{nil, conns("stats."), sized(5001), sized(0, 0, 0, 0, 0), sized(13, 13), sized(5000, 1)} {
			for _, workers := range []int{math.MinInt, -1, 0, 1, 16, 17} {
				wantRefused(t, c, pieces, workers, api.ErrConfig)
			}
		}
	}
	for _, c := range []api.Config{{JobMax: 1, Segment: 128, Quota: 1024}, tight, wide, great} {
		wantAll(t, c, conns("put 0 0 9 1.x."), "INSERTED 1.")
	}
}

// P24.3: more connections, or more pieces, than may be are refused whatever the workers are, and however many orders there are.
func TestWrongPlan(t *testing.T) {
	for _, workers := range []int{math.MinInt, -1, 0, 1, 2, 16, 17, math.MaxInt} {
		for _, sizes := range [][]int{
			{0, 0, 0, 0, 0}, {1, 1, 1, 1, 1}, {0, 0, 0, 0, 1}, {13, 13, 13, 13, 13}, {5001, 0, 0, 0, 0}, make([]int, 6), make([]int, 64), make([]int, 65), make([]int, 100000),
			{5001}, {0, 5001}, {5002}, {100000}, {5000, 1}, {1, 5000}, {2500, 2501}, {0, 0, 0, 5001}, {1250, 1250, 1250, 1251}, {5000, 0, 1, 0}, {5001, 5001, 5001, 5001},
		} {
			wantRefused(t, tight, sized(sizes...), workers, api.ErrWeavePlan)
		}
	}
	for n := range 5 {
		wantAll(t, tight, make([][][]byte, n), strings.Repeat("|", max(0, n-1)))
	}
	wantAll(t, tight, sized(5000), "")
	wantAll(t, tight, sized(0, 0, 5000, 0), "|||")
}

// P24.3: less or more workers than may be are refused ahead of too many orders.
func TestWrongWorkers(t *testing.T) {
	for _, workers := range []int{math.MinInt, math.MinInt + 1, -1 << 32, -1<<32 + 1, -16, -2, -1, 0, 17, 18, 256 + 1, 1<<32 + 1, math.MaxInt} {
		for _, pieces := range [][][][]byte{nil, sized(0, 0, 0, 0), conns("stats.", "use a."), sized(5000), sized(4999, 1), sized(13, 13), sized(2500, 2500), sized(1250, 1250, 1250, 1250)} {
			wantRefused(t, tight, pieces, workers, api.ErrArg)
		}
	}
}

// P24.3: too many orders are refused, where nothing else is wrong.
func TestTooManyOrders(t *testing.T) {
	for _, sizes := range [][]int{{13, 13}, {8, 7}, {9, 6}, {99, 2}, {2, 99}, {2500, 2500}, {4998, 2}, {2, 4998}, {1250, 1250, 1250, 1250}, {70, 1, 1}, {1, 1, 70}, {16, 1, 1, 1}, {3, 2, 2, 2}} {
		pieces := sized(sizes...)
		wantMany(t, pieces, 0)
		for _, workers := range []int{1, 2, 15, 16} {
			wantRefused(t, tight, pieces, workers, api.ErrWeaveMany)
		}
	}
	// As many as may be.
	for _, workers := range []int{1, 16} {
		for _, sizes := range [][]int{{4999, 1}, {0, 1, 0, 4999}, {98, 2}, {7, 7}, {15, 1, 1, 1}, {2, 2, 2, 2}} {
			got, err := All(tight, sized(sizes...), workers)
			if err != api.OK || len(got) != 1 || strings.Trim(saidText(got[0]), "|") != "" || len(got[0]) != len(sizes) {
				t.Errorf("%v: %s, %d", sizes, show(got), err)
			}
		}
	}
}
