package weave

import (
	"bytes"
	"fmt"
	"math"
	"math/rand"
	"runtime"
	"slices"
	"strings"
	"sync"
	"testing"

	"stint/api"
)

func randomConfig(dice *rand.Rand) api.Config {
	list := []api.Config{tight, chapters, wide, {JobMax: 1, Segment: 128, Quota: 1024}, {JobMax: 40, Segment: 128, Quota: 2048}, {JobMax: 9, Segment: 512, Quota: 8192}}
	return list[dice.Intn(len(list))]
}

// randomBytes are bytes of which many are ends, or halves of them.
func randomBytes(dice *rand.Rand, n int) string {
	b := make([]byte, n)
	for i := range b {
		b[i] = "\r\n\r\n ab0\x00\xff"[dice.Intn(10)]
	}
	return string(b)
}

// randomText is a command as bytes, or something that is none.
func randomText(dice *rand.Rand) string {
	switch n := dice.Intn(60); {
	case n < 20:
		size := dice.Intn(12)
		return fmt.Sprint("put ", 1022+dice.Intn(4), " ", max(0, dice.Intn(6)-4), " ", 1+dice.Intn(5), " ", size, "\r\n", randomBytes(dice, size), "\r\n")
	case n < 28:
		return "reserve\r\n"
	case n < 34:
		return fmt.Sprint("reserve-with-timeout ", dice.Intn(2), "\r\n")
	case n < 36:
		return randomBytes(dice, dice.Intn(30))
	case n < 38:
		return "quit\r\n"
	}
	verb := []string{
		"delete #", "delete #", "delete #", "release # 5 0", "release # 5 1", "bury # 3", "touch #", "peek #", "kick-job #", "stats-job #", "reserve-job #",
		"use @", "watch @", "ignore @", "stats-tube @", "pause-tube @ %", "kick %", "kick %", "peek-ready", "peek-delayed", "peek-buried", "stats", "list-tubes", "list-tube-used", "list-tubes-watched",
	}[dice.Intn(25)]
	tube := []string{"a", "b", "default", "default"}[dice.Intn(4)]
	return strings.NewReplacer("#", fmt.Sprint(dice.Intn(6)), "@", tube, "%", fmt.Sprint(dice.Intn(4))).Replace(verb) + "\r\n"
}

// randomSizes are numbers of pieces of up to four connections, of which there are no more orders than most.
func randomSizes(dice *rand.Rand, most int) []int {
	for {
		var sizes []int
		for range []int{0, 1, 2, 2, 2, 3, 3, 3, 4, 4}[dice.Intn(10)] {
			sizes = append(sizes, dice.Intn(8))
		}
		if n := manyOf(sizes); n > 0 && n <= most && (n > 1 || dice.Intn(20) == 0) {
			return sizes
		}
	}
}

// cut is a text in so many pieces, most of them whole commands, some of them without bytes.
func cut(dice *rand.Rand, commands []string, n int) [][]byte {
	all, ends := strings.Join(commands, ""), []int{}
	for _, s := range commands {
		ends = append(ends, len(s))
		if len(ends) > 1 {
			ends[len(ends)-1] += ends[len(ends)-2]
		}
	}
	var cuts []int
	for range n - 1 {
		at := dice.Intn(len(all) + 1)
		if len(ends) > 0 && dice.Intn(3) > 0 {
			at = ends[dice.Intn(len(ends))]
		}
		cuts = append(cuts, at)
	}
	slices.Sort(cuts)
	var pieces [][]byte
	from := 0
	for _, at := range append(cuts, len(all)) {
		pieces = append(pieces, []byte(all[from:at]))
		from = at
	}
	return pieces
}

func randomPieces(dice *rand.Rand, most int) [][][]byte {
	var all [][][]byte
	for _, n := range randomSizes(dice, most) {
		if n == 0 {
			all = append(all, nil)
			continue
		}
		var commands []string
		for range 1 + dice.Intn(2*n+3) {
			commands = append(commands, randomText(dice))
		}
		all = append(all, cut(dice, commands, n))
	}
	return all
}

// P24.2, P24.3, P24.4: random pieces, with whatever workers.
func TestPlays(t *testing.T) {
	seen := map[string]int{}
	for seed := range 1500 {
		dice := rand.New(rand.NewSource(int64(seed)))
		most := 60
		if seed%50 == 0 {
			most = 5000
		}
		c, pieces := randomConfig(dice), randomPieces(dice, most)
		outcomes := wantSame(t, fmt.Sprint("seed ", seed), c, pieces, 1+dice.Intn(16))
		if len(outcomes) > 1 {
			seen["unlike outcomes"]++
		}
		all := fmt.Sprintf("%q", outcomes)
		for _, word := range []string{"INSERTED", "RESERVED", "DELETED", "TIMED_OUT", "OUT_OF_MEMORY", "KICKED", "OK"} {
			if strings.Contains(all, word) {
				seen[word]++
			}
		}
	}
	for _, what := range []string{"unlike outcomes", "INSERTED", "RESERVED", "DELETED", "TIMED_OUT", "OUT_OF_MEMORY", "KICKED", "OK"} {
		if seen[what] < 30 {
			t.Errorf("%s: seen %d times", what, seen[what])
		}
	}
}

// P24.4: the answer is one with all numbers of workers, also with more of them than there are orders.
func TestWorkers(t *testing.T) {
	for seed := range 60 {
		dice := rand.New(rand.NewSource(int64(3000 + seed)))
		c, pieces := randomConfig(dice), randomPieces(dice, 150)
		want := plainAll(t, c, pieces)
		for workers := 1; workers <= 16; workers++ {
			for range 3 {
				if got, err := All(c, pieces, workers); err != api.OK || !sameOutcomes(got, want) {
					t.Fatalf("seed %d, %d workers: %s, %d; want %s", seed, workers, show(got), err, show(want))
				}
			}
		}
	}
}

// P24.4, R5: however the goroutines run, on one processor and on many, with others that want them, the answer is one.
func TestOneAnswer(t *testing.T) {
	defer runtime.GOMAXPROCS(runtime.GOMAXPROCS(0))
	stop := make(chan struct{})
	var group sync.WaitGroup
	for range 4 {
		group.Go(func() {
			for {
				select {
				case <-stop:
					return
				default:
					runtime.Gosched()
				}
			}
		})
	}
	for seed := range 40 {
		dice := rand.New(rand.NewSource(int64(9000 + seed)))
		c, pieces := randomConfig(dice), randomPieces(dice, 60)
		for _, n := range []int{1, 2, 3, 8, 32} {
			runtime.GOMAXPROCS(n)
			wantSame(t, fmt.Sprint("seed ", seed, " on ", n), c, pieces, 1+dice.Intn(16))
		}
	}
	close(stop)
	group.Wait()
}

// R5: weaves side by side tell the same of the same pieces.
func TestSideBySide(t *testing.T) {
	for seed := range 20 {
		dice := rand.New(rand.NewSource(int64(500 + seed)))
		pieces := randomPieces(dice, 60)
		want := plainAll(t, chapters, pieces)
		got := make([][][][]byte, 16)
		var group sync.WaitGroup
		for i := range got {
			group.Go(func() { got[i], _ = All(chapters, pieces, 1+i) })
		}
		group.Wait()
		for i := range got {
			if !sameOutcomes(got[i], want) {
				t.Fatalf("seed %d: the weave %d tells other things", seed, i)
			}
		}
	}
}

// P24.5: one connection alone has one outcome, that of all its bytes as one piece.
func TestAlone(t *testing.T) {
	for seed := range 300 {
		dice := rand.New(rand.NewSource(int64(seed)))
		c := randomConfig(dice)
		var commands []string
		for range dice.Intn(25) {
			commands = append(commands, randomText(dice))
		}
		whole := []byte(strings.Join(commands, ""))
		want := wantSame(t, "whole", c, [][][]byte{{whole}}, 1)
		if len(want) != 1 {
			t.Fatalf("seed %d: %d outcomes", seed, len(want))
		}
		single := slices.Collect(slices.Chunk(whole, 1))
		for _, list := range [][][]byte{cut(dice, commands, 1+dice.Intn(20)), cut(dice, commands, 1+dice.Intn(200)), single} {
			if n, few := Many([][][]byte{list}); n != 1 || !few {
				t.Fatalf("seed %d: %d orders", seed, n)
			}
			got, err := All(c, [][][]byte{list}, 1+dice.Intn(16))
			if err != api.OK || !sameOutcomes(got, want) {
				t.Fatalf("seed %d: %s, %d; want %s", seed, show(got), err, show(want))
			}
		}
		// Beside others that say nothing: these are told of by stats, but the order tells nothing.
		if got := wantSame(t, fmt.Sprint("seed ", seed), c, [][][]byte{nil, {{}}, {whole}, {nil, nil}}, 4); len(got) != 1 {
			t.Fatalf("seed %d: %d outcomes", seed, len(got))
		}
	}
}

// P24.5: pieces without bytes do not change which outcomes there are.
func TestEmptyPieces(t *testing.T) {
	done := 0
	for seed := range 300 {
		dice := rand.New(rand.NewSource(int64(seed)))
		c, pieces := randomConfig(dice), randomPieces(dice, 20)
		if len(pieces) == 0 {
			continue
		}
		want, _ := All(c, pieces, 4)
		for range 4 {
			k := dice.Intn(len(pieces))
			pieces[k] = slices.Insert(slices.Clone(pieces[k]), dice.Intn(len(pieces[k])+1), []byte{})
			if _, few := Many(pieces); !few {
				break
			}
			done++
			if got, err := All(c, pieces, 4); err != api.OK || !sameOutcomes(got, want) {
				t.Fatalf("seed %d: %s, %d; want %s", seed, show(got), err, show(want))
			}
		}
	}
	if done < 300 {
		t.Errorf("%d times", done)
	}
}

// P24.6: where a piece is cut in two, each outcome that there was is one still.
func TestCutInTwo(t *testing.T) {
	more := 0
	for seed := range 500 {
		dice := rand.New(rand.NewSource(int64(seed)))
		c, pieces := randomConfig(dice), randomPieces(dice, 60)
		k := dice.Intn(len(pieces) + 1)
		if k == len(pieces) || len(pieces[k]) == 0 {
			continue
		}
		was, _ := All(c, pieces, 4)
		at := dice.Intn(len(pieces[k]))
		piece := pieces[k][at]
		middle := dice.Intn(len(piece) + 1)
		pieces[k] = slices.Replace(slices.Clone(pieces[k]), at, at+1, piece[:middle], piece[middle:])
		is, err := All(c, pieces, 4)
		if err != api.OK {
			t.Fatalf("seed %d: %d", seed, err)
		}
		if len(is) > len(was) {
			more++
		}
		for _, said := range was {
			if !slices.ContainsFunc(is, func(x [][]byte) bool { return sameOutcome(x, said) }) {
				t.Fatalf("seed %d: %s is lost", seed, show(said))
			}
		}
	}
	if more < 20 {
		t.Errorf("there were more outcomes %d times", more)
	}
}

// P24.7: as long as nobody has said an end of a line nothing is said to anybody.
func TestNoEnd(t *testing.T) {
	for seed := range 300 {
		dice := rand.New(rand.NewSource(int64(seed)))
		var pieces [][][]byte
		for _, n := range randomSizes(dice, 300) {
			all := randomBytes(dice, dice.Intn([]int{5, 40, 600}[dice.Intn(3)])) + []string{"", "quit\r", "\nuse a\r", "put 0 0 9 1\r"}[dice.Intn(4)]
			for strings.Contains(all, "\r\n") {
				all = strings.ReplaceAll(all, "\r\n", "")
			}
			if n == 0 {
				pieces = append(pieces, nil)
				continue
			}
			pieces = append(pieces, cut(dice, []string{all}, n))
		}
		got, err := All(randomConfig(dice), pieces, 1+dice.Intn(16))
		if err != api.OK || len(got) != 1 || len(got[0]) != len(pieces) || len(bytes.Join(got[0], nil)) != 0 {
			t.Fatalf("seed %d: %s, %d", seed, show(got), err)
		}
	}
	// A CR of one and an LF of another are no end.
	wantAll(t, tight, conns("use a\r", "\n", "\n/use b\r"), "||")
	wantAll(t, tight, conns("use a\r/\n", "\n"), "USING a.|")
}

// R1: any pieces, with any numbers.
func TestAnything(t *testing.T) {
	numbers := []int{math.MinInt, -1 << 32, -1, 0, 1, 2, 15, 16, 17, 255, 1024, 4096, 1 << 32, math.MaxInt}
	for seed := range 1500 {
		dice := rand.New(rand.NewSource(int64(seed)))
		number := func() int { return numbers[dice.Intn(len(numbers))] }
		c, pieces, workers := randomConfig(dice), randomPieces(dice, 60), number()
		if dice.Intn(8) == 0 {
			c = api.Config{JobMax: number(), Segment: number() / 4, Quota: number()}
		}
		sum := 0
		switch dice.Intn(6) {
		case 0:
			pieces = append(pieces, make([][][]byte, dice.Intn(8))...)
		case 1:
			pieces = append(pieces, make([][]byte, 4990+dice.Intn(20)))
		case 2:
			pieces = append(pieces, make([][]byte, dice.Intn(30)))
		}
		var sizes []int
		for _, list := range pieces {
			sum += len(list)
			sizes = append(sizes, len(list))
		}
		right := c.JobMax >= 1 && c.JobMax <= 65535 && c.Segment >= 128 && c.Segment <= 1<<20 && c.Quota >= 1024 && c.Quota <= 1<<26 && c.Quota/4 >= c.Segment
		switch {
		case !right:
			wantRefused(t, c, pieces, workers, api.ErrConfig)
		case len(pieces) > 4 || sum > 5000:
			wantRefused(t, c, pieces, workers, api.ErrWeavePlan)
		case workers < 1 || workers > 16:
			wantRefused(t, c, pieces, workers, api.ErrArg)
		case manyOf(sizes) == 0:
			wantRefused(t, c, pieces, workers, api.ErrWeaveMany)
		case sum < 60:
			wantSame(t, fmt.Sprint("seed ", seed), c, pieces, workers)
		}
	}
}
