package hall

import (
	"bytes"
	"fmt"
	"math/rand"
	"reflect"
	"runtime"
	"slices"
	"strings"
	"testing"
	"testing/synctest"
	"time"

	"stint/api"
)

// goroutines are those that there are and have one of some texts in what they are at.
func goroutines(texts ...string) []string {
	b := make([]byte, 1<<20)
	b = b[:runtime.Stack(b, true)]
	return slices.DeleteFunc(strings.Split(string(b), "\n\n"), func(s string) bool {
		return !slices.ContainsFunc(texts, func(text string) bool { return strings.Contains(s, text) })
	})
}

// wantIdle: nobody is at work any more for a hall.
func wantIdle(t *testing.T, what string) {
	t.Helper()
	if list := goroutines("stint/hall.(*keeper)", "stint/hall.(*comer)"); len(list) > 0 {
		t.Fatalf("%s: somebody is still at work: %s", what, show(list))
	}
}

// wantEnded: one that has said that it ends needs a moment still until the machine does not count it any more; no other one is left.
func wantEnded(t *testing.T, what string, before int) {
	t.Helper()
	for until := time.Now().Add(10 * time.Second); time.Now().Before(until); runtime.Gosched() {
		if runtime.NumGoroutine() <= before {
			return
		}
	}
	t.Fatalf("%s: there are %d goroutines, ahead of it %d: %s", what, runtime.NumGoroutine(), before, show(goroutines("created by stint/hall")))
}

// P23.4: no goroutine is left behind a run, whatever its plan: also of connections that were hung up, that wait, that have said nothing.
func TestGoroutinesEnd(t *testing.T) {
	before := runtime.NumGoroutine()
	for _, p := range []api.Plan{
		{}, {Ticks: 5}, {Pieces: make([][][]byte, 64)}, {Pieces: conns("", "use a.", "")},
		{Pieces: conns("quit./use a./use b.", "quit./use a./use b."), Ticks: 2},
		{Pieces: conns("reserve.", "reserve./reserve."), Ticks: 2},
		{Pieces: conns("reserve.quit./use a./use b.", "put 0 0 9 1.x./use c."), Picks: []int{0, 1}},
		{Pieces: conns("reserve-with-timeout 1.quit./use a./use b."), Picks: []int{0, 1}, Ticks: 1},
		{Ticks: -1}, {Pieces: make([][][]byte, 65)},
	} {
		for range 200 {
			Run(ten, p)
			wantIdle(t, show(p))
		}
		wantEnded(t, show(p), before)
	}
	for seed := range 300 {
		dice := rand.New(rand.NewSource(int64(7000 + seed)))
		c, p := randomConfig(dice), randomPlan(dice)
		Run(c, p)
		wantIdle(t, fmt.Sprint("seed ", seed))
		Run(api.Config{}, p)
		wantEnded(t, fmt.Sprint("seed ", seed), before)
	}
}

// P23.4: a bubble can't be left by its test while a goroutine that was begun in it waits for something.
func TestNoGoroutineWaits(t *testing.T) {
	for seed := range 200 {
		dice := rand.New(rand.NewSource(int64(seed)))
		c, p := randomConfig(dice), randomPlan(dice)
		synctest.Test(t, func(t *testing.T) { wantSame(t, fmt.Sprint("seed ", seed), c, p) })
	}
}

// scribble writes over a list and its spare room.
func scribble[T any](list []T, x T) {
	list = list[:cap(list)]
	for i := range list {
		list[i] = x
	}
}

// scribbleAll writes over all that was told; no two lists of it may share memory.
func scribbleAll(t *testing.T, said [][]byte, turns []api.Turn) {
	t.Helper()
	for k, b := range said {
		scribble(b, byte(k+1))
	}
	for k, b := range said {
		if b = b[:cap(b)]; bytes.Count(b, []byte{byte(k + 1)}) != len(b) {
			t.Fatalf("what was said to %d shares memory with what was said to another one", k)
		}
	}
	scribble(said, []byte("#"))
	scribble(turns, api.Turn{Conn: 99, Piece: 99})
}

// roomy is a plan all of whose lists have spare room, with something in it.
func roomy(p api.Plan) api.Plan {
	x := api.Plan{Ticks: p.Ticks, Picks: append(slices.Clone(p.Picks), 5, 6, 7)[:len(p.Picks)]}
	for _, pieces := range p.Pieces {
		var list [][]byte
		for _, piece := range pieces {
			list = append(list, append(slices.Clone(piece), "\r\nquit\r\nspare"...)[:len(piece)])
		}
		list = append(list, []byte("quit\r\n"), []byte("use z\r\n"))[:len(pieces)]
		x.Pieces = append(x.Pieces, list)
	}
	x.Pieces = append(x.Pieces, [][]byte{[]byte("quit\r\n")})[:len(p.Pieces)]
	return x
}

// whole is a copy of a plan, the spare room of its lists included.
func whole(p api.Plan) api.Plan {
	x := api.Plan{Ticks: p.Ticks, Picks: slices.Clone(p.Picks[:cap(p.Picks)])}
	for _, pieces := range p.Pieces[:cap(p.Pieces)] {
		var list [][]byte
		for _, piece := range pieces[:cap(pieces)] {
			list = append(list, bytes.Clone(piece[:cap(piece)]))
		}
		x.Pieces = append(x.Pieces, list)
	}
	return x
}

// R4: a plan is neither changed nor kept, nor the spare room behind its lists; whatever a caller writes into answers, or into what was handed in, no other answer shows it.
func TestMemory(t *testing.T) {
	for seed := range 300 {
		dice := rand.New(rand.NewSource(int64(seed)))
		c, p := randomConfig(dice), randomPlan(dice)
		want, order := plainRun(t, c, p)
		x := roomy(p)
		before := whole(x)
		first, turns, _ := Run(c, x)
		second, again, _ := Run(c, x)
		if !reflect.DeepEqual(whole(x), before) {
			t.Fatalf("seed %d: the plan has changed", seed)
		}
		scribbleAll(t, first, turns)
		if !reflect.DeepEqual(whole(x), before) {
			t.Fatalf("seed %d: an answer shares memory with the plan", seed)
		}
		for _, pieces := range x.Pieces {
			for _, piece := range pieces {
				scribble(piece, '#')
			}
			scribble(pieces, []byte("#"))
		}
		scribble(x.Pieces, nil)
		scribble(x.Picks, 99)
		if !sameSaid(second, want) || !slices.Equal(again, order) {
			t.Fatalf("seed %d: an answer has changed", seed)
		}
		wantSame(t, fmt.Sprint("seed ", seed), c, p)
	}
}

// R4: pieces that are one memory are pieces like others.
func TestSharedPieces(t *testing.T) {
	all := text("put 0 0 9 1.x.reserve.delete 1.")
	one := [][]byte{all, all[:14], all[14:], all}
	wantSame(t, "shared", small, api.Plan{Pieces: [][][]byte{one, one, one[1:], one[:2]}, Picks: []int{3, 1, 2}, Ticks: 2})
	picks := []int{1, 0}
	wantSame(t, "shared", small, api.Plan{Pieces: [][][]byte{one, one}, Picks: picks[:1]})
}

// R3: no connections, no pieces, no bytes and no picks, nil or empty, are the same.
func TestNothing(t *testing.T) {
	for _, piece := range [][]byte{nil, {}, make([]byte, 0, 9)} {
		for _, none := range [][][]byte{nil, {}, make([][]byte, 0, 9)} {
			for _, picks := range [][]int{nil, {}, make([]int, 0, 9)} {
				wantRun(t, ten, api.Plan{Pieces: [][][]byte{none, {piece, text("use a."), piece}, none}, Picks: picks, Ticks: 1}, "|USING a.|", "1:0 1:1 1:2 t:0")
			}
			wantRun(t, ten, api.Plan{Pieces: [][][]byte{none}}, "", "")
		}
	}
	for _, pieces := range [][][][]byte{nil, {}, make([][][]byte, 0, 9)} {
		wantRun(t, ten, api.Plan{Pieces: pieces}, "", "")
	}
}

func heapInUse() int {
	runtime.GC()
	var m runtime.MemStats
	runtime.ReadMemStats(&m)
	return int(m.HeapAlloc)
}

// Of a run nothing is kept.
func TestKeepsNothing(t *testing.T) {
	p := api.Plan{Pieces: conns("put 0 0 9 9000."+strings.Repeat("b", 9000)+".peek 1./quit./use a.", "reserve./use b.", "stats."), Picks: []int{0, 2, 5}, Ticks: 5}
	for range 20 {
		Run(wide, p)
	}
	before := heapInUse()
	for range 2000 {
		Run(wide, p)
	}
	if grown := heapInUse() - before; grown > 1<<20 {
		t.Errorf("%d bytes are kept", grown)
	}
}

// wantSoon tells whether what began at a time took too long.
func wantSoon(t *testing.T, start time.Time) {
	t.Helper()
	if took := time.Since(start); took > 60*time.Second {
		t.Errorf("it took %v", took)
	}
}

// R1: as many turns as may be, of all connections, with as many picks.
func TestManyTurns(t *testing.T) {
	start := time.Now()
	p := api.Plan{Ticks: 32}
	for k := range 64 {
		var pieces [][]byte
		for i := range 62 {
			pieces = append(pieces, text([]string{"put 0 0 3 1.x.", "reserve-with-timeout 3.", fmt.Sprint("delete ", k+i, "."), "stats.", "release 1 2 3."}[(k+i)%5]))
		}
		p.Pieces = append(p.Pieces, pieces)
	}
	dice := rand.New(rand.NewSource(1))
	for range 5000 {
		p.Picks = append(p.Picks, int(dice.Uint64()))
	}
	if _, turns := wantSame(t, "many turns", wide, p); len(turns) != 4000 {
		t.Errorf("%d turns", len(turns))
	}
	wantSoon(t, start)
}

// R1: many commands in a piece, and much that is said to one connection.
func TestMuchIsSaid(t *testing.T) {
	start := time.Now()
	body := strings.Repeat("b", 65535)
	p := api.Plan{Pieces: conns("put 0 0 9 65535."+body+".", strings.Repeat("peek 1.", 500)+"/"+strings.Repeat("use a.", 100000), "reserve.")}
	said, _ := wantSame(t, "much", great, p)
	if want := 500*len("FOUND 1 65535\r\n"+body+"\r\n") + 100000*len("USING a\r\n"); len(said[1]) != want {
		t.Errorf("%d bytes are said; want %d", len(said[1]), want)
	}
	wantSoon(t, start)
}

// R1: a tick tells all connections, which go on with what they have said meanwhile, and are hung up all at once.
func TestAllAreTold(t *testing.T) {
	pieces := make([]string, 64)
	for k := range pieces {
		pieces[k] = fmt.Sprint("reserve-with-timeout 1.use t", k, ".quit./use a./use b.")
	}
	p := api.Plan{Pieces: conns(pieces...), Ticks: 1}
	var order []int
	for k := range 64 {
		order = append(order, 63-k)
	}
	order = append(order, -1)
	p.Picks = picksFor(t, small, p, order)
	said, turns := wantSame(t, "all", small, p)
	if len(turns) != 65 {
		t.Errorf("%d turns", len(turns))
	}
	for k, b := range said {
		if want := fmt.Sprint("TIMED_OUT\r\nUSING t", k, "\r\n"); string(b) != want {
			t.Errorf("%d is told %q; want %q", k, b, want)
		}
	}
}
