package weave

import (
	"bytes"
	"fmt"
	"math/rand"
	"reflect"
	"runtime"
	"slices"
	"strings"
	"testing"
	"testing/synctest"
	"time"

	"stint/api"
)

// goroutines are those that there are and have a text in what they are at.
func goroutines(text string) []string {
	b := make([]byte, 1<<20)
	b = b[:runtime.Stack(b, true)]
	return slices.DeleteFunc(strings.Split(string(b), "\n\n"), func(s string) bool { return !strings.Contains(s, text) })
}

// wantIdle: nobody is at work any more for a weave.
func wantIdle(t *testing.T, what string) {
	t.Helper()
	if list := goroutines("stint/weave.(*loom).work"); len(list) > 0 {
		t.Fatalf("%s: somebody is still at work: %s", what, show(list))
	}
}

// wantEnded: one that has said that it ends needs a moment still until the machine does not count it any more; no other one is left.
func wantEnded(t *testing.T, what string, before int) {
	t.Helper()
	for until := time.Now().Add(10 * time.Second); time.Now().Before(until); runtime.Gosched() {
		if runtime.NumGoroutine() <= before {
			return
		}
	}
	t.Fatalf("%s: there are %d goroutines, ahead of it %d: %s", what, runtime.NumGoroutine(), before, show(goroutines("created by stint/weave")))
}

// P24.4: no goroutine is left when All has answered, also with more workers than orders, and where it refuses.
func TestGoroutinesEnd(t *testing.T) {
	before := runtime.NumGoroutine()
	for _, pieces := range [][][][]byte{nil, make([][][]byte, 4), conns("use a."), conns("quit./use a.", "reserve./use b."), conns("reserve.", "reserve.", "put 0 0 9 1.x.", "stats."), sized(13, 13), sized(5001), sized(0, 0, 0, 0, 0)} {
		for workers := range 18 {
			for range 20 {
				All(tight, pieces, workers)
				wantIdle(t, show(pieces))
			}
			wantEnded(t, fmt.Sprint(show(pieces), workers), before)
			All(api.Config{}, pieces, workers)
			wantEnded(t, fmt.Sprint(show(pieces), workers), before)
		}
	}
}

// P24.4: a bubble can't be left by its test while a goroutine that was begun in it waits for something.
func TestNoGoroutineWaits(t *testing.T) {
	for seed := range 200 {
		dice := rand.New(rand.NewSource(int64(seed)))
		c, pieces := randomConfig(dice), randomPieces(dice, 60)
		synctest.Test(t, func(t *testing.T) { wantSame(t, fmt.Sprint("seed ", seed), c, pieces, 1+dice.Intn(16)) })
	}
}

// The chapter's ways: so many workers as were asked for share the work, and no more. While the outcomes are locked each of them stands still with its first one.
func TestWorkersShare(t *testing.T) {
	pieces := conns("use a./use a./use a.", "use b./use b./use b.")
	for _, workers := range []int{1, 2, 5, 16} {
		l := newLoom(tight, pieces)
		ended := make(chan struct{})
		l.lock.Lock()
		go func() {
			defer close(ended)
			l.run(workers)
		}()
		for until := time.Now().Add(60 * time.Second); len(goroutines("stint/weave.(*loom).gather")) < workers && time.Now().Before(until); {
			time.Sleep(time.Millisecond)
		}
		if n := len(goroutines("stint/weave.(*loom).gather")); n != workers {
			t.Errorf("%d have an outcome; want %d", n, workers)
		}
		if n := len(goroutines("created by stint/weave.(*loom).run ")); n != workers {
			t.Errorf("%d were begun; want %d", n, workers)
		}
		l.lock.Unlock()
		<-ended
		if want := []string{"USING a.USING a.USING a.|USING b.USING b.USING b."}; !slices.Equal(saidTexts(l.told), want) {
			t.Errorf("%d workers: %s; want %s", workers, show(saidTexts(l.told)), show(want))
		}
	}
}

// scribble writes over a list and its spare room.
func scribble[T any](list []T, x T) {
	list = list[:cap(list)]
	for i := range list {
		list[i] = x
	}
}

// scribbleAll writes over all that was told; no two lists of it may share memory.
func scribbleAll(t *testing.T, outcomes [][][]byte) {
	t.Helper()
	n := 0
	for _, said := range outcomes {
		for _, b := range said {
			n++
			scribble(b, byte(n))
		}
	}
	n = 0
	for _, said := range outcomes {
		for _, b := range said {
			n++
			if b = b[:cap(b)]; bytes.Count(b, []byte{byte(n)}) != len(b) {
				t.Fatalf("two lists of one answer share memory")
			}
		}
	}
	for i, said := range outcomes {
		scribble(said, []byte{byte(i)})
	}
	for i, said := range outcomes {
		for _, b := range said[:cap(said)] {
			if !bytes.Equal(b, []byte{byte(i)}) {
				t.Fatalf("two outcomes of one answer share memory")
			}
		}
	}
	scribble(outcomes, [][]byte{[]byte("#")})
}

// roomy are pieces all of whose lists have spare room, with something in it.
func roomy(pieces [][][]byte) [][][]byte {
	var all [][][]byte
	for _, from := range pieces {
		var list [][]byte
		for _, piece := range from {
			list = append(list, append(slices.Clone(piece), "\r\nquit\r\nspare"...)[:len(piece)])
		}
		all = append(all, append(list, []byte("quit\r\n"), []byte("use z\r\n"))[:len(from)])
	}
	return append(all, [][]byte{[]byte("quit\r\n")})[:len(pieces)]
}

// whole is a copy of pieces, the spare room of their lists included.
func whole(pieces [][][]byte) [][][]byte {
	var all [][][]byte
	for _, from := range pieces[:cap(pieces)] {
		var list [][]byte
		for _, piece := range from[:cap(from)] {
			list = append(list, bytes.Clone(piece[:cap(piece)]))
		}
		all = append(all, list)
	}
	return all
}

// P24.4, R4: pieces are neither changed nor kept, nor the spare room behind their lists; whatever a caller writes into answers, or into what was handed in, no other answer shows it.
func TestMemory(t *testing.T) {
	for seed := range 300 {
		dice := rand.New(rand.NewSource(int64(seed)))
		c, pieces := randomConfig(dice), randomPieces(dice, 60)
		want := plainAll(t, c, pieces)
		x := roomy(pieces)
		before := whole(x)
		Many(x)
		first, _ := All(c, x, 1+dice.Intn(16))
		second, _ := All(c, x, 1+dice.Intn(16))
		if !reflect.DeepEqual(whole(x), before) {
			t.Fatalf("seed %d: the pieces have changed", seed)
		}
		scribbleAll(t, first)
		if !reflect.DeepEqual(whole(x), before) {
			t.Fatalf("seed %d: an answer shares memory with the pieces", seed)
		}
		for _, list := range x {
			for _, piece := range list {
				scribble(piece, '#')
			}
			scribble(list, []byte("#"))
		}
		scribble(x, nil)
		if !sameOutcomes(second, want) {
			t.Fatalf("seed %d: an answer has changed", seed)
		}
		wantSame(t, fmt.Sprint("seed ", seed), c, pieces, 1+dice.Intn(16))
	}
}

// R4: pieces that are one memory are pieces like others.
func TestSharedPieces(t *testing.T) {
	all := text("put 0 0 9 1.x.reserve.delete 1.")
	one := [][]byte{all, all[:14], all[14:], all}
	wantSame(t, "shared", chapters, [][][]byte{one, one[1:], one[:2]}, 4)
	wantSame(t, "shared", chapters, [][][]byte{one[:2], one[:2], one[:2], one[:1]}, 4)
}

// R3: no connections, no pieces and no bytes, nil or empty, are the same.
func TestNothing(t *testing.T) {
	for _, none := range [][][]byte{nil, {}, make([][]byte, 0, 9)} {
		for _, piece := range [][]byte{nil, {}, make([]byte, 0, 9)} {
			pieces := [][][]byte{none, {piece, text("use a."), piece}, none, {piece}}
			wantMany(t, pieces, 4)
			wantAll(t, tight, pieces, "|USING a.||")
		}
		wantMany(t, [][][]byte{none}, 1)
		wantAll(t, tight, [][][]byte{none}, "")
	}
	for _, pieces := range [][][][]byte{nil, {}, make([][][]byte, 0, 9)} {
		wantMany(t, pieces, 1)
		wantAll(t, tight, pieces, "")
	}
}

func heapInUse() int {
	runtime.GC()
	var m runtime.MemStats
	runtime.ReadMemStats(&m)
	return int(m.HeapAlloc)
}

// P24.4: nothing is kept.
func TestKeepsNothing(t *testing.T) {
	pieces := conns("put 0 0 9 9000."+strings.Repeat("b", 9000)+".peek 1./quit./use a.", "reserve./use b.", "stats.")
	for range 5 {
		All(wide, pieces, 8)
	}
	before := heapInUse()
	for range 200 {
		All(wide, pieces, 8)
	}
	if grown := heapInUse() - before; grown > 1<<20 {
		t.Errorf("%d bytes are kept", grown)
	}
}

// R1: much that is said, in many unlike outcomes.
func TestMuchIsSaid(t *testing.T) {
	start := time.Now()
	body := strings.Repeat("b", 65535)
	pieces := [][][]byte{slices.Repeat(conns("peek 1.")[0], 60), conns("put 0 0 9 65535." + body + ".")[0]}
	got := wantSame(t, "much", great, pieces, 16)
	if len(got) != 61 {
		t.Errorf("%d outcomes", len(got))
	}
	for i, said := range got {
		if want := i*len("NOT_FOUND\r\n") + (60-i)*len("FOUND 1 65535\r\n"+body+"\r\n"); len(said[0]) != want {
			t.Errorf("at %d: %d bytes are said; want %d", i, len(said[0]), want)
		}
	}
	if took := time.Since(start); took > 60*time.Second {
		t.Errorf("it took %v", took)
	}
}
