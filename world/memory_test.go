package world

import (
	"bytes"
	"fmt"
	"math/rand"
	"reflect"
	"runtime"
	"slices"
	"strings"
	"sync"
	"testing"
	"time"

	"stint/api"
)

// scribble writes over a list and its spare room.
func scribble[T any](list []T, x T) {
	list = list[:cap(list)]
	for i := range list {
		list[i] = x
	}
}

func scribbleEvents(events []api.Event) {
	for _, e := range events {
		scribble(e.Data, '#')
	}
	scribble(events, api.Event{Kind: 99, Conn: 99, Data: []byte("#")})
}

// scribbleTells writes over all that a world tells.
func scribbleTells(w *World) {
	for _, f := range w.Files() {
		scribble(f.Data, '#')
	}
	for _, j := range w.Jobs() {
		scribble(j.Body, '#')
	}
	scribble(w.Files(), api.File{})
	scribble(w.Jobs(), api.Job{})
	scribble(w.Tubes(), api.Tube{})
	scribble(w.Conns(), 99)
}

// wantApart: no two lists of some events share memory.
func wantApart(t *testing.T, events []api.Event) {
	t.Helper()
	for i, e := range events {
		scribble(e.Data, byte(i))
	}
	for i, e := range events {
		if data := e.Data[:cap(e.Data)]; bytes.Count(data, []byte{byte(i)}) != len(data) {
			t.Fatalf("the bytes of the event %d are those of another one, too", i)
		}
	}
}

// R4: whatever a caller writes into answers, no other answer shows it; also not those of a clone.
func TestAnswers(t *testing.T) {
	for seed := range 60 {
		x := newPlay(t, seed)
		for i := range 250 {
			clone := x.w.Clone()
			_, events := x.turn()
			wantApart(t, events)
			scribbleEvents(events)
			scribbleTells(x.w)
			if i%5 == 0 {
				scribbleEvents(clone.Step(ticks))
				scribbleEvents(clone.Step(feeds(0, "..use z.kick 9.peek 1.")))
				scribbleEvents(clone.Step(crashes()))
				scribbleEvents(clone.Step(starts))
				scribbleTells(clone)
			}
		}
		wantTells(t, fmt.Sprint("seed ", seed), x.w, x.p.tells())
	}
}

// R4: what a run tells shares no memory, neither of two steps nor with the steps.
func TestRunMemory(t *testing.T) {
	play := api.Play{Config: mild, Steps: []api.Step{opens(1), feeds(1, one+"peek 1.peek 1."), feeds(1, "peek 1."), broken(feeds(1, "stats."), 9, 1), starts}}
	list, _ := Run(play)
	want, _ := Run(play)
	for _, events := range list {
		wantApart(t, events)
		scribbleEvents(events)
	}
	again, err := Run(play)
	if err != api.OK || !slices.EqualFunc(again, want, sameEvents) {
		t.Errorf("a run tells other things")
	}
	list, _ = Run(play)
	for i, s := range play.Steps {
		scribble(s.Data, '#')
		scribble(play.Steps[i].Keep, 99)
	}
	scribble(play.Steps, api.Step{})
	if !slices.EqualFunc(list, want, sameEvents) {
		t.Errorf("what was told changes with the steps")
	}
}

// R4: a step that is handed in is neither changed nor kept, nor the spare room of its lists, wherever bytes are cut.
func TestArguments(t *testing.T) {
	all := text("reserve-with-timeout 1.put 0 0 9 4.body.use mail.reserve-with-timeout 1.watch mail." + strings.Repeat("l", 300) + ".put 0 0 9 200." + strings.Repeat("b", 200) + ".")
	for cut := 1; cut < 40; cut++ {
		x := newPair(t, mild)
		x.step(opens(3))
		for b := all; len(b) > 0; b = b[min(cut, len(b)):] {
			n := min(cut, len(b))
			room := append(bytes.Clone(b[:n]), "\r\nquit\r\nspare"...)
			whole := bytes.Clone(room)
			want := x.p.step(api.Step{Kind: api.StFeed, Conn: 3, Data: b[:n]})
			got := x.w.Step(api.Step{Kind: api.StFeed, Conn: 3, Data: room[:n]})
			if !bytes.Equal(room, whole) {
				t.Fatalf("cut by %d: what was handed in became %q", cut, room)
			}
			scribble(room, '#')
			if !sameEvents(got, want) {
				t.Fatalf("cut by %d: %s; want %s", cut, show(words(t, got)), show(words(t, want)))
			}
		}
		x.step(ticks)
		x.step(ticks)
		keep := []int{5, 6, 7, 8}
		s := broken(feeds(3, one), 3)
		s.Keep = keep[:1]
		x.step(s)
		if !slices.Equal(keep, []int{5, 6, 7, 8}) || s.Break != 3 || string(s.Data) != string(text(one)) {
			t.Fatalf("a step became %s", show(s))
		}
		scribble(keep, 99)
		x.step(starts)
	}
}

// R4: an answer stays as it was told, whatever is done later.
func TestAnswersStay(t *testing.T) {
	b := newBench(t, mild, 1, 2)
	events := b.Step(feeds(1, "put 0 0 9 2.ab.put 0 0 9 2.cd.reserve.peek 2."))
	told, files, jobs, tubes, conns := ownEvents(events), b.Files(), b.Jobs(), b.Tubes(), b.Conns()
	before := tellsOf(b.World)
	b.Step(feeds(1, "delete 1.use x.put 0 0 9 2.zz.reserve.bury 2 9.kick 9.pause-tube x 9."))
	b.Step(feeds(2, "reserve.peek-ready.quit."))
	b.Step(ticks)
	b.Step(broken(feeds(1, one), 3, 5, 5, 5))
	b.Step(starts)
	if !reflect.DeepEqual(ownEvents(events), told) || !reflect.DeepEqual(ownFiles(files), before.files) || !reflect.DeepEqual(ownJobs(jobs), before.jobs) || !reflect.DeepEqual(tubes, before.tubes) || !reflect.DeepEqual(conns, before.conns) {
		t.Errorf("an earlier answer has changed")
	}
}

// R3: no bytes, nil or empty, and no keep, are the same.
func TestNothing(t *testing.T) {
	begin := newBench(t, mild, 1)
	begin.feed(1, "us", "")
	for _, data := range [][]byte{nil, {}, make([]byte, 0, 9)} {
		for _, keep := range [][]int{nil, {}, make([]int, 0, 9)} {
			b := begin.clone()
			before := tellsOf(b.World)
			b.step(api.Step{Kind: api.StFeed, Conn: 1, Data: data, Keep: keep}, "H1 ")
			wantTells(t, "no bytes", b.World, before)
			b.step(api.Step{Kind: api.StFeed, Conn: 1, Data: append(data, "e a\r\n"...), Break: 3, Keep: keep}, "H1 e a. D1 S1 USING a. Down0")
			b.step(api.Step{Kind: api.StStart, Keep: keep}, "Up0")
			b.step(api.Step{Kind: api.StCrash, Keep: keep}, "Down0")
		}
	}
}

// R1: any steps, with any numbers and any bytes.
func TestAnything(t *testing.T) {
	for seed := range 40 {
		dice := rand.New(rand.NewSource(int64(seed)))
		x := newPair(t, small)
		numbers := append(slices.Concat(wrongConns, wrongKinds), 0, 1, 2, 3, 4, 5)
		for range 600 {
			s := api.Step{Kind: 1 + dice.Intn(7), Conn: dice.Intn(3), Data: []byte(randomBytes(dice, dice.Intn(30)))}
			if dice.Intn(3) == 0 {
				s.Kind = api.StFeed
				s.Data = []byte(randomText(dice, x.w))
			}
			if dice.Intn(10) == 0 {
				s.Kind = numbers[dice.Intn(len(numbers))]
			}
			if dice.Intn(10) == 0 {
				s.Conn = numbers[dice.Intn(len(numbers))]
			}
			if dice.Intn(10) == 0 {
				s.Break = numbers[dice.Intn(len(numbers))]
			}
			for range dice.Intn(5) {
				s.Keep = append(s.Keep, numbers[dice.Intn(len(numbers))])
			}
			x.step(s)
		}
	}
}

func heapInUse() int {
	runtime.GC()
	var m runtime.MemStats
	runtime.ReadMemStats(&m)
	return int(m.HeapAlloc)
}

// What came from connections is not kept when the power is gone, nor what was told.
func TestPowerTakesMemory(t *testing.T) {
	b := newBench(t, api.Config{JobMax: 65535, Segment: 1 << 18, Quota: 1 << 20}, 1)
	before := heapInUse()
	b.Step(feeds(1, "reserve."))
	for range 500 {
		b.Step(feeds(1, "put 0 0 9 60000."+strings.Repeat("b", 60000)+"."))
	}
	if grown := heapInUse() - before; grown < 25<<20 {
		t.Errorf("%d bytes are kept of what is not done", grown)
	}
	b.step(crashes(), "Down0")
	if grown := heapInUse() - before; grown > 2<<20 {
		t.Errorf("%d bytes are kept", grown)
	}
	runtime.KeepAlive(b.World)
}

// A long life with crashes leaves no more behind than a short one.
func TestLongLife(t *testing.T) {
	b := newBench(t, wide)
	body := strings.Repeat("b", 2000)
	round := func(i int) {
		b.Step(opens(1))
		b.Step(feeds(1, "put 0 0 9 2000."+body+".reserve.put 0 0 9 2000."+body+".reserve-with-timeout 9.stats."))
		b.Step(ticks)
		if i%2 == 0 {
			b.Step(broken(hangs(1), 1+i%9, 7, 7))
			b.Step(broken(starts, 1+i%3))
			b.Step(starts)
			b.Step(opens(1))
		}
		b.Step(hangs(1))
		b.Step(opens(1))
		for _, j := range b.Jobs() {
			b.Step(feeds(1, fmt.Sprint("delete ", j.Id, ".")))
		}
	}
	for i := range 100 {
		round(i)
	}
	before := heapInUse()
	for i := range 1500 {
		round(i)
	}
	if grown := heapInUse() - before; grown > 2<<20 {
		t.Errorf("%d bytes are kept", grown)
	}
	wantInt(t, "jobs", len(b.Jobs()), 0)
	runtime.KeepAlive(b.World)
}

// wantSoon tells whether what began at a time took too long.
func wantSoon(t *testing.T, start time.Time) {
	t.Helper()
	if took := time.Since(start); took > 60*time.Second {
		t.Errorf("it took %v", took)
	}
}

// R1: many commands in one step, many steps, and the greatest bodies.
func TestMany(t *testing.T) {
	start := time.Now()
	b := newBench(t, wide, 1)
	wantInt(t, "events", len(b.Step(feeds(1, strings.Repeat("use a.", 100000)))), 200001)
	wantInt(t, "events", len(b.Step(broken(feeds(1, strings.Repeat("use a.", 100000)), 100001))), 100002)
	b = newBench(t, api.Config{JobMax: 65535, Segment: 1 << 20, Quota: 1 << 26}, 1)
	body := strings.Repeat("b", 65535)
	for n := range 500 {
		b.feed(1, "put 0 0 9 65535."+body+".", fmt.Sprint("D1 S1 INSERTED ", n+1, "."))
	}
	b.again(1)
	wantInt(t, "jobs", len(b.Jobs()), 500)
	b.feed(1, "peek 500.", "D1 S1 FOUND 500 65535."+body+".")
	wantSoon(t, start)
}

// R1, P20.6: a play of as many starts and crashes as may be, over many jobs.
func TestManyStarts(t *testing.T) {
	start := time.Now()
	play := api.Play{Config: api.Config{JobMax: 100, Segment: 4096, Quota: 1 << 18}, Steps: []api.Step{opens(1), feeds(1, strings.Repeat(one, 400))}}
	for len(play.Steps) < api.MaxSteps {
		play.Steps = append(play.Steps, crashes(1), starts)
	}
	list, err := Run(play)
	if err != api.OK || len(list) != api.MaxSteps || len(list[1]) != 801 {
		t.Errorf("Run: %d, %d", len(list), err)
	}
	wantSoon(t, start)
}

// R5: worlds side by side tell the same of the same steps.
func TestSideBySide(t *testing.T) {
	x := newPlay(t, 7)
	var steps []api.Step
	for range 400 {
		s, _ := x.turn()
		steps = append(steps, s)
	}
	play := api.Play{Config: x.w.config, Steps: steps}
	said := make([][][]api.Event, 8)
	var group sync.WaitGroup
	for i := range said {
		group.Go(func() { said[i], _ = Run(play) })
	}
	group.Wait()
	for i := range said {
		if len(said[i]) != 400 || !slices.EqualFunc(said[i], said[0], sameEvents) {
			t.Errorf("the world %d tells other things than the first one", i)
		}
	}
}
