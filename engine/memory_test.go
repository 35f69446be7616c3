package engine

import (
	"bytes"
	"fmt"
	"math"
	"math/rand"
	"reflect"
	"runtime"
	"slices"
	"strings"
	"sync"
	"testing"
	"time"

	"stint/api"
)

// scribble writes over a list and its spare room.
func scribble[T any](list []T, x T) {
	list = list[:cap(list)]
	for i := range list {
		list[i] = x
	}
}

// scribbleOuts writes over all lists of some outs, and over these.
func scribbleOuts(outs []api.Out) {
	for _, x := range outs {
		scribble(x.Act.Data, '#')
		scribble(x.Reply.Body, '#')
		scribble(x.Data, '#')
	}
	scribble(outs, api.Out{Kind: 99, Reply: api.Reply{Body: []byte("#")}})
}

// scribbleTells writes over all that an engine tells.
func scribbleTells(e *Engine) {
	for _, j := range e.Jobs() {
		scribble(j.Body, '#')
	}
	for _, j := range e.Stored() {
		scribble(j.Body, '#')
	}
	for _, s := range e.Seats() {
		scribble(s.Watched, "#")
	}
	scribble(e.Jobs(), api.Job{})
	scribble(e.Stored(), api.Stored{})
	scribble(e.Tubes(), api.Tube{})
	scribble(e.Seats(), api.Seat{})
}

// R4: whatever a caller writes into answers and into what was handed in, no other answer shows it.
func TestAnswers(t *testing.T) {
	for seed := range 40 {
		dice := rand.New(rand.NewSource(int64(seed)))
		c := randomConfig(dice)
		e, acts, _ := New(c, 5)
		p, _, _ := plainNew(c, 5)
		for _, a := range acts {
			scribble(a.Data, '#')
		}
		for range 250 {
			if dice.Intn(4) == 0 {
				x := cmd("put 1 0 9", "a")
				conn := dice.Intn(3)
				want, wantErr := p.do(conn, cmd("put 1 0 9", "a"))
				got, err := e.Do(conn, x)
				if err != wantErr || !sameOuts(got, want) {
					t.Fatalf("put: %d, %s; want %d, %s", err, show(toldAll(t, got)), wantErr, show(toldAll(t, want)))
				}
				scribble(x.Body, '#')
				scribbleOuts(got)
			}
			scribbleOuts(step(t, dice, e, p, 3))
			scribbleTells(e)
		}
		if got, want := tellsOf(e), p.tells(); !reflect.DeepEqual(got, want) {
			t.Fatalf("seed %d: it tells %s", seed, differ(got, want))
		}
	}
}

// R4: the files that are handed in are neither changed nor kept, nor a put's body with its spare room.
func TestArguments(t *testing.T) {
	files := filesOf(t, wide, api.Stored{Pri: 1, TTR: 9, State: api.Ready, Tube: "a", Body: []byte("body")})
	before := bytes.Clone(files[0].Data)
	e, acts, err := Open(wide, 5, files)
	if err != api.OK || len(acts) != 0 || !bytes.Equal(files[0].Data, before) || len(files) != 1 {
		t.Fatalf("Open: %d, %s", err, show(acts))
	}
	scribble(files[0].Data, '#')
	scribble(files, api.File{})
	e.Join(1)
	room := make([]byte, 4, 16)
	copy(room, "abcd")
	for i := range 12 {
		room[:16][4+i] = byte(i)
	}
	whole := bytes.Clone(room[:16])
	outs, _ := e.Do(1, api.Cmd{Kind: api.CmdPut, TTR: 9, Number: 4, Body: room})
	if !bytes.Equal(room[:16], whole) {
		t.Errorf("the body became %q", room[:16])
	}
	scribble(room, '#')
	scribbleOuts(outs)
	for id, want := range map[int]string{1: "body", 2: "abcd"} {
		for range 2 {
			outs, _ := e.Do(1, cmd(fmt.Sprint("peek ", id)))
			if got := string(outs[0].Reply.Body); got != want {
				t.Errorf("the body of %d is %q; want %q", id, got, want)
			}
			scribbleOuts(outs)
		}
	}
}

// R4: an answer stays as it was told, whatever is done later.
func TestAnswersStay(t *testing.T) {
	b := rich(t)
	jobs, stored, tubes, seats := b.e.Jobs(), b.e.Stored(), b.e.Tubes(), b.e.Seats()
	before := tellsOf(b.e)
	for _, call := range calls() {
		call(b.e)
	}
	if !reflect.DeepEqual(ownJobs(jobs), before.jobs) || !reflect.DeepEqual(ownStored(stored), before.stored) || !reflect.DeepEqual(tubes, before.tubes) || !reflect.DeepEqual(seats, before.seats) {
		t.Errorf("an earlier answer has changed")
	}
}

func heapInUse() int {
	runtime.GC()
	var m runtime.MemStats
	runtime.ReadMemStats(&m)
	return int(m.HeapAlloc)
}

// R4: long texts of which tubes were pieces are not kept.
func TestNothingIsKept(t *testing.T) {
	b := newBench(t, wide, 10, 1, 2)
	before := heapInUse()
	for i := range 200 {
		text := strings.Repeat("long", 1<<18) // a text for each round
		name := text[:20+i%5]
		for _, kind := range []int{api.CmdUse, api.CmdWatch, api.CmdPause, api.CmdStatsTube, api.CmdIgnore, api.CmdWatch, api.CmdPause} {
			if outs, err := b.e.Do(1, api.Cmd{Kind: kind, Tube: name}); err != api.OK || len(outs) != 1 {
				t.Fatalf("Do: %d, %s", err, show(outs))
			}
		}
		big := make([]byte, 1<<20)
		outs, err := b.e.Do(1, api.Cmd{Kind: api.CmdPut, TTR: 9, Number: 1, Body: big[:1]})
		if err != api.OK {
			t.Fatalf("Do: %d, %s", err, show(outs))
		}
	}
	if grown := heapInUse() - before; grown > 8<<20 {
		t.Errorf("%d bytes are kept", grown)
	}
	runtime.KeepAlive(b)
}

// What is gone is not kept: no job, no tube, no burying, no connection.
func TestLongLife(t *testing.T) {
	e, _, _ := New(wide, 0)
	do := func(conn int, c api.Cmd) []api.Out {
		outs, err := e.Do(conn, c)
		if err != api.OK {
			t.Fatalf("Do(%s) = %d", show(c), err)
		}
		return outs
	}
	round := func(i int) {
		e.Join(1)
		e.Join(2)
		do(1, cmd(fmt.Sprint("use tube", i)))
		do(1, cmd(fmt.Sprint("watch tube", i)))
		outs := do(1, cmd("put 1 0 9", "x"))
		id := outs[len(outs)-1].Reply.Id
		do(1, cmd(fmt.Sprint("pause-tube tube", i, " 50")))
		do(1, cmd(fmt.Sprint("reserve-job ", id)))
		do(1, cmd(fmt.Sprint("bury ", id, " 5")))
		if i%2 == 0 {
			do(1, cmd("kick 1"))
		}
		do(2, cmd(fmt.Sprint("delete ", id)))
		do(2, cmd("reserve"))
		e.Leave(1)
		e.Leave(2)
		e.Tick()
	}
	for i := range 1000 {
		round(i)
	}
	before := heapInUse()
	for i := range 20000 {
		round(i)
	}
	if grown := heapInUse() - before; grown > 2<<20 {
		t.Errorf("%d bytes are kept", grown)
	}
	if len(e.tubes) != 0 || len(e.burials) > 1 || len(e.Jobs()) != 0 || len(e.Tubes()) != 1 {
		t.Errorf("%d tubes, %d burials and %d jobs are kept", len(e.tubes), len(e.burials), len(e.Jobs()))
	}
	runtime.KeepAlive(e)
}

// What is over of buryings is not kept, also where some job is always buried, and its Order rises.
func TestManyBurials(t *testing.T) {
	b := newBench(t, wide, 0, 1)
	b.do(1, "put 1 0 999999", "put 1 0 999999", "put 1 0 999999", "reserve", "reserve", "reserve", "bury 1 0", "bury 2 0")
	for i := range 30000 {
		id := 1 + i%2
		for _, line := range []string{"reserve-job ", "bury "} {
			c := cmd(fmt.Sprint(line, id) + strings.Repeat(" 0", one(line == "bury ")))
			if _, err := b.e.Do(1, c); err != api.OK {
				t.Fatalf("Do(%s) = %d", show(c), err)
			}
		}
		wantInt(t, b.job(id).Order, i+3)
	}
	if len(b.e.burials) != 3 {
		t.Errorf("%d burials are kept", len(b.e.burials))
	}
}

// great is an engine with room for many jobs.
func great(t *testing.T) *Engine {
	t.Helper()
	e, _, err := New(api.Config{JobMax: 65535, Segment: 1 << 20, Quota: 1 << 26}, 0)
	if err != api.OK || e.Join(1) != api.OK || e.Join(2) != api.OK {
		t.Fatal("New, Join")
	}
	return e
}

// must does a command that is told something.
func must(t *testing.T, e *Engine, conn int, c api.Cmd, kind int) api.Reply {
	t.Helper()
	outs, err := e.Do(conn, c)
	if err != api.OK || len(outs) == 0 {
		t.Fatalf("Do(%s): %d, %s", show(c), err, show(outs))
	}
	r := outs[len(outs)-1].Reply
	if r.Kind != kind {
		t.Fatalf("Do(%s): %s; want the kind %d", show(c), show(r), kind)
	}
	return r
}

// R1: many jobs are put, reserved, buried, kicked, touched, released, delayed, and go, each in its time.
func TestManyJobs(t *testing.T) {
	const most = 50000
	e := great(t)
	start := time.Now()
	for i := range most {
		must(t, e, 1, cmd(fmt.Sprint("put ", i%1000, " 0 ", 1+i%5000)), api.RepInserted)
	}
	for range most {
		must(t, e, 2, cmd("reserve"), api.RepReserved)
	}
	for i := range most {
		must(t, e, 2, api.Cmd{Kind: api.CmdBury, Id: i*7919%most + 1, Pri: 7}, api.RepBuried)
	}
	wantInt(t, e.Shop().Sums.Buried, most)
	wantInt(t, must(t, e, 1, cmd("kick 10000"), api.RepKicked).Number, 10000)
	for i := range most / 2 {
		e.Do(1, api.Cmd{Kind: api.CmdReserveJob, Id: i + 1})
		e.Do(1, api.Cmd{Kind: api.CmdTouch, Id: i + 1})
		e.Do(1, api.Cmd{Kind: api.CmdRelease, Id: i + 1, Pri: 1, Delay: 1 + i%50})
	}
	for range 60 {
		e.Tick()
	}
	wantInt(t, e.Shop().Sums.Delayed, 0)
	wantInt(t, len(e.Jobs()), most)
	for i := range most {
		must(t, e, 1, api.Cmd{Kind: api.CmdDelete, Id: i + 1}, api.RepDeleted)
	}
	if took := time.Since(start); took > 60*time.Second {
		t.Errorf("it took %v", took)
	}
}

// R1: many tubes, which are used, watched, filled, paused and waited for.
func TestManyTubes(t *testing.T) {
	const most = 20000
	e := great(t)
	start := time.Now()
	for i := range most {
		name := fmt.Sprint("tube", i*7919%most)
		must(t, e, 1, api.Cmd{Kind: api.CmdUse, Tube: name}, api.RepUsing)
		must(t, e, 1, cmd("put 5 1 9"), api.RepInserted)
		must(t, e, 1, api.Cmd{Kind: api.CmdPause, Tube: name, Number: 2 + i%2}, api.RepPaused)
		must(t, e, 2, api.Cmd{Kind: api.CmdWatch, Tube: name}, api.RepWatching)
	}
	wantInt(t, len(e.Tubes()), most+1)
	e.Do(2, cmd("reserve"))
	wantInt(t, len(e.Tick()), 0)
	outs := e.Tick()
	if len(outs) != 1 || outs[0].Conn != 2 || outs[0].Reply.Id != 1 {
		t.Errorf("the tick: %s", show(toldAll(t, outs)))
	}
	wantInt(t, must(t, e, 2, cmd("reserve"), api.RepReserved).Id, 3)
	e.Tick()
	wantInt(t, must(t, e, 2, cmd("reserve"), api.RepReserved).Id, 2)
	for i := range most {
		must(t, e, 2, api.Cmd{Kind: api.CmdIgnore, Tube: fmt.Sprint("tube", i)}, api.RepWatching)
	}
	for i := range most {
		must(t, e, 1, api.Cmd{Kind: api.CmdDelete, Id: i + 1}, map[bool]int{true: api.RepNotFound, false: api.RepDeleted}[i < 3])
	}
	if took := time.Since(start); took > 60*time.Second {
		t.Errorf("it took %v", took)
	}
}

// R1: all connections wait, for many tubes, and are handed jobs by one tick.
func TestManyWaiters(t *testing.T) {
	const most = 3000
	e := great(t)
	for conn := 3; conn < 64; conn++ {
		e.Join(conn)
	}
	for i := range most {
		must(t, e, 1, api.Cmd{Kind: api.CmdUse, Tube: fmt.Sprint("tube", i)}, api.RepUsing)
		must(t, e, 1, cmd(fmt.Sprint("put ", most-i, " 1 9")), api.RepInserted)
		for conn := 2; conn < 64; conn++ {
			must(t, e, conn, api.Cmd{Kind: api.CmdWatch, Tube: fmt.Sprint("tube", i)}, api.RepWatching)
		}
	}
	for conn := 63; conn >= 2; conn-- {
		e.Do(conn, cmd("reserve"))
	}
	wantInt(t, e.Shop().Waiting, 62)
	outs := e.Tick()
	wantInt(t, len(outs), 62)
	for i, x := range outs {
		if x.Conn != 63-i || x.Reply.Id != most-i || x.Reply.Kind != api.RepReserved {
			t.Errorf("the reply %d: %s", i, told(t, x))
		}
	}
}

// R1: any commands, with any numbers, of any connections.
func TestAnything(t *testing.T) {
	numbers := []int{math.MinInt, -1 << 40, -1, 0, 1, 2, 3, 4, 1<<32 - 1, 1 << 32, 1 << 40, 1<<40 + 1, 1<<62 - 1, 1 << 62, math.MaxInt}
	texts := []string{"", "a", "default", "-a", "a b", "\xff", strings.Repeat("n", 200), strings.Repeat("n", 201)}
	for seed := range 20 {
		dice := rand.New(rand.NewSource(int64(seed)))
		e, _, _ := New(wide, numbers[3+dice.Intn(7)])
		p, _, _ := plainNew(wide, e.Now())
		for conn := range 4 {
			e.Join(conn)
			p.join(conn)
		}
		for range 5000 {
			number := func() int {
				if dice.Intn(2) == 0 {
					return 0
				}
				return numbers[dice.Intn(len(numbers))]
			}
			c := api.Cmd{Kind: dice.Intn(27) - 1, Id: number(), Pri: number(), Delay: number(), TTR: number(), Number: number(), Tube: texts[dice.Intn(len(texts))*dice.Intn(2)]}
			if dice.Intn(8) == 0 {
				c.Body = make([]byte, dice.Intn(3))
			}
			conn := []int{0, 1, 2, 3, number()}[dice.Intn(5)]
			outs, err := e.Do(conn, c)
			want, wantErr := p.do(conn, c)
			if err != wantErr || !sameOuts(outs, want) {
				t.Fatalf("Do(%d, %s): %d, %s; want %d, %s", conn, show(c), err, show(outs), wantErr, show(want))
			}
			if e.Waits(conn) {
				e.Leave(conn)
				p.leave(conn)
				e.Join(conn)
				p.join(conn)
			}
		}
		wantTells(t, e, p.tells())
	}
}

// R5: engines side by side tell the same of the same calls, whatever order a map is gone through.
func TestSideBySide(t *testing.T) {
	said := make([][]api.Out, 8)
	last := make([]tells, 8)
	var group sync.WaitGroup
	for i := range said {
		group.Go(func() {
			e, _, _ := New(wide, 0)
			for conn := range 20 {
				e.Join(conn)
			}
			hear := func(outs []api.Out, _ api.Errno) { said[i] = append(said[i], outs...) }
			for n := range 100 {
				hear(e.Do(0, cmd(fmt.Sprint("use t", n%9))))
				hear(e.Do(0, cmd(fmt.Sprint("put ", n%3, " ", n%4, " ", 1+n%5))))
				hear(e.Do(1+n%19, cmd(fmt.Sprint("watch t", n*5%9))))
				hear(e.Do(1+n%19, cmd("reserve-with-timeout 3")))
				hear(e.Do(0, cmd(fmt.Sprint("pause-tube t", n*2%9, " ", n%3))))
				if n%3 == 0 {
					hear(e.Tick(), api.OK)
				}
				if n%10 == 9 {
					hear(e.Leave(n % 19))
					e.Join(n % 19)
				}
			}
			last[i] = tellsOf(e.Clone())
		})
	}
	group.Wait()
	for i := range said {
		if !sameOuts(said[i], said[0]) || !reflect.DeepEqual(last[i], last[0]) {
			t.Errorf("the engine %d tells other things than the first one", i)
		}
	}
	if !slices.ContainsFunc(said[0], func(x api.Out) bool { return x.Reply.Kind == api.RepTimedOut }) || len(said[0]) < 500 {
		t.Errorf("the play is too tame: %d outs", len(said[0]))
	}
}
