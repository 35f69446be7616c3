package engine

import (
	"fmt"
	"math/rand"
	"reflect"
	"slices"
	"strings"
	"testing"

	"stint/api"
	"stint/disk"
)

var playTubes = []string{"a", "b", "ab", "default", "default"}

func randomConfig(dice *rand.Rand) api.Config {
	list := []api.Config{
		small, {JobMax: 1, Segment: 128, Quota: 1024}, {JobMax: 40, Segment: 128, Quota: 2048}, {JobMax: 300, Segment: 400, Quota: 1600},
		{JobMax: 65535, Segment: 1024, Quota: 4096}, {JobMax: 9, Segment: 512, Quota: 8192}, wide,
	}
	return list[dice.Intn(len(list))]
}

// randomCmd is a command that fits what there is, mostly.
func randomCmd(dice *rand.Rand, p *plain, c api.Config) api.Cmd {
	kind := 1 + dice.Intn(24)
	if dice.Intn(3) == 0 {
		kind = []int{api.CmdPut, api.CmdReserve, api.CmdReserveWithin, api.CmdRelease, api.CmdBury, api.CmdDelete, api.CmdKick}[dice.Intn(7)]
	}
	x := api.Cmd{Kind: kind}
	tube, id, number := playTubes[dice.Intn(len(playTubes))], dice.Intn(p.l.Next()+1), dice.Intn(4)
	if len(p.jobs) > 0 && dice.Intn(8) > 0 {
		id = p.jobs[dice.Intn(len(p.jobs))].Id
	}
	switch kind {
	case api.CmdPut:
		x.Pri, x.Delay, x.TTR = 1022+dice.Intn(4), max(0, dice.Intn(6)-3), 1+dice.Intn(5)
		x.Body = make([]byte, dice.Intn(min(c.JobMax, 20)+1))
		dice.Read(x.Body)
		x.Number = len(x.Body)
	case api.CmdUse, api.CmdWatch, api.CmdIgnore, api.CmdStatsTube:
		x.Tube = tube
	case api.CmdPause:
		x.Tube, x.Number = tube, number
	case api.CmdReserveWithin, api.CmdKick:
		x.Number = number
	case api.CmdRelease:
		x.Id, x.Pri, x.Delay = id, dice.Intn(3), max(0, dice.Intn(5)-2)
	case api.CmdBury:
		x.Id, x.Pri = id, dice.Intn(3)
	case api.CmdReserveJob, api.CmdDelete, api.CmdTouch, api.CmdPeek, api.CmdKickJob, api.CmdStatsJob:
		x.Id = id
	}
	if dice.Intn(60) == 0 {
		return spoilt(dice, x)
	}
	return x
}

// spoilt is a command of which something may not be so.
func spoilt(dice *rand.Rand, x api.Cmd) api.Cmd {
	switch dice.Intn(6) {
	case 0:
		x.Kind = []int{-1, 0, 25, 26}[dice.Intn(4)]
	case 1:
		x.Number = 1 << 32
	case 2:
		x.Id--
	case 3:
		x.Tube = "-"
	case 4:
		x.Body = make([]byte, 101)
		x.Number = 101
	case 5:
		x.TTR--
	}
	return x
}

// holderOf is a connection that can do something to a job, if there is one.
func holderOf(p *plain, id, conn int) int {
	if j := p.job(id); j != nil && j.State == api.Reserved {
		return j.Holder
	}
	return conn
}

// step does one thing to an engine and to a plain one, which must answer alike.
func step(t *testing.T, dice *rand.Rand, e *Engine, p *plain, most int) []api.Out {
	t.Helper()
	conn := dice.Intn(most+1) - dice.Intn(2)
	var outs, want []api.Out
	var err, wantErr api.Errno
	what := ""
	switch n := dice.Intn(40); {
	case n < 3:
		what = fmt.Sprint("Join ", conn)
		err, wantErr = e.Join(conn), p.join(conn)
	case n < 4:
		what = fmt.Sprint("Leave ", conn)
		outs, err = e.Leave(conn)
		want, wantErr = p.leave(conn)
	case n < 8:
		what = "Tick"
		outs, want = e.Tick(), p.tick()
	case n < 9 && dice.Intn(30) == 0:
		what = "Drain"
		e.Drain()
		p.draining = true
	default:
		c := randomCmd(dice, p, p.c)
		if dice.Intn(3) > 0 {
			conn = holderOf(p, c.Id, conn)
		}
		what = fmt.Sprintf("Do %d %+v", conn, c)
		outs, err = e.Do(conn, c)
		want, wantErr = p.do(conn, c)
	}
	if err != wantErr || !sameOuts(outs, want) {
		t.Fatalf("%s: %d, %s; want %d, %s", what, err, show(toldAll(t, outs)), wantErr, show(toldAll(t, want)))
	}
	parts(t, outs)
	if got, want := tellsOf(e), p.tells(); !reflect.DeepEqual(got, want) {
		t.Fatalf("%s: it tells %s", what, differ(got, want))
	}
	return outs
}

func sameOuts(x, y []api.Out) bool {
	if len(x) != len(y) {
		return false
	}
	for i := range x {
		if !reflect.DeepEqual(ownOut(x[i]), ownOut(y[i])) {
			return false
		}
	}
	return true
}

// ownOut is an out with lists of its own; one that is none is nil.
func ownOut(x api.Out) api.Out {
	x.Act.Data = append([]byte(nil), x.Act.Data...)
	x.Reply.Body = append([]byte(nil), x.Reply.Body...)
	return x
}

func randomNow(dice *rand.Rand) int {
	return []int{0, 0, 10, 1<<40 - 20, 1<<40 - 3, 1 << 40}[dice.Intn(6)]
}

// seen counts what plays have come by.
type seen struct {
	replies             [api.Replies + 1]int
	handed, moved, last int // replies to others than the command's connection; moves; plays that came to the clock's end
}

func (s *seen) count(outs []api.Out) {
	says := 0
	for _, x := range outs {
		if x.Kind == api.OutSay {
			s.replies[x.Reply.Kind]++
			says++
		}
	}
	s.handed += max(0, says-1)
}

// wantWild tells whether plays were such that all that can be said was said often.
func (s *seen) wantWild(t *testing.T, least int) {
	t.Helper()
	for kind := 1; kind <= api.Replies; kind++ {
		said := kind < api.RepBadFormat || kind == api.RepDraining
		if said && s.replies[kind] < least || !said && s.replies[kind] > 0 {
			t.Errorf("the reply %d was said %d times", kind, s.replies[kind])
		}
	}
	if s.handed < least || s.moved < least || s.last < 5 {
		t.Errorf("the plays are too tame: %+v", s)
	}
}

// P17.3 to P17.18, P17.20 to P17.24: random plays against a plain engine, and on a disk.
func TestAgainstPlain(t *testing.T) {
	var s seen
	for seed := range 300 {
		dice := rand.New(rand.NewSource(int64(seed)))
		c, now := randomConfig(dice), randomNow(dice)
		e, acts, _ := New(c, now)
		p, _, _ := plainNew(c, now)
		d, _ := disk.New(c.Quota)
		b := &bench{t, e, d}
		b.acts(acts)
		most := 1 + dice.Intn(6)
		for range 250 {
			outs := step(t, dice, e, p, most)
			b.done(outs)
			s.count(outs)
			if dice.Intn(10) == 0 {
				wantReopened(b)
			}
			if t.Failed() {
				t.Fatalf("with the seed %d", seed)
			}
		}
		s.moved += e.Shop().Moved
		s.last += one(e.Now() == 1<<40)
	}
	s.wantWild(t, 40)
}

// wantReopened is P17.21: an engine that is opened with the files has the same jobs, and counts as they were stored last.
func wantReopened(b *bench) {
	b.t.Helper()
	o := b.reopen(b.e.Now())
	got, want := ownJobs(o.e.Jobs()), ownJobs(b.e.Jobs())
	stored := b.e.Stored()
	for i := range want {
		if want[i].State == api.Reserved {
			want[i].State, want[i].Holder, want[i].Due = api.Ready, -1, 0
		}
		want[i].Counts = stored[i].Counts
	}
	if !reflect.DeepEqual(got, want) {
		b.t.Errorf("opened it has %s; want %s", show(got), show(want))
	}
	if !reflect.DeepEqual(ownStored(o.e.Stored()), ownStored(stored)) {
		b.t.Errorf("opened it stores %s; want %s", show(o.e.Stored()), show(stored))
	}
	wantRight(b.t, o.e)
}

// randomStored is a job that may be stored, now and then with numbers at their ends.
func randomStored(dice *rand.Rand) api.Stored {
	j := api.Stored{Pri: 1022 + dice.Intn(4), Delay: dice.Intn(3), TTR: 1 + dice.Intn(4), Born: dice.Intn(30), State: api.Ready, Tube: playTubes[dice.Intn(len(playTubes))]}
	j.Body = make([]byte, dice.Intn(20))
	dice.Read(j.Body)
	for _, n := range []*int{&j.Counts.Reserves, &j.Counts.Timeouts, &j.Counts.Releases, &j.Counts.Buries, &j.Counts.Kicks} {
		*n = []int{0, 1, 1<<62 - 3, 1<<62 - 2, 1<<62 - 1}[dice.Intn(5)]
	}
	switch dice.Intn(3) {
	case 0:
		j.State, j.Due = api.Delayed, 1+dice.Intn(30)
	case 1:
		j.State, j.Order = api.Buried, []int{1, 2, 2, 9, 1<<62 - 2, 1<<62 - 1}[dice.Intn(6-dice.Intn(3))]
	}
	return j
}

// P17.2, and what follows it: an engine that is opened with any jobs against a plain one.
func TestOpenAgainstPlain(t *testing.T) {
	for seed := range 300 {
		dice := rand.New(rand.NewSource(int64(seed)))
		c := api.Config{JobMax: 9, Segment: 512, Quota: 8192}
		var list []api.Stored
		for range dice.Intn(16) {
			list = append(list, randomStored(dice))
		}
		now := dice.Intn(25)
		b := opened(t, c, now, list...)
		p, _, _ := plainOpen(c, now, filesOf(t, c, list...))
		if got, want := tellsOf(b.e), p.tells(); !reflect.DeepEqual(got, want) {
			t.Fatalf("seed %d: it tells %s", seed, differ(got, want))
		}
		for range 120 {
			b.done(step(t, dice, b.e, p, 3))
			if t.Failed() {
				t.Fatalf("with the seed %d", seed)
			}
		}
		wantReopened(b)
	}
}

// P17.19: clones of clones go their own ways, each like a plain one.
func TestClones(t *testing.T) {
	for seed := range 60 {
		dice := rand.New(rand.NewSource(int64(seed)))
		c := randomConfig(dice)
		e, _, _ := New(c, 5)
		p, _, _ := plainNew(c, 5)
		engines, plains := []*Engine{e}, []*plain{p}
		for range 400 {
			i := dice.Intn(len(engines))
			if len(engines) < 6 && dice.Intn(30) == 0 {
				engines, plains = append(engines, engines[i].Clone()), append(plains, plains[i].clone())
			}
			step(t, dice, engines[i], plains[i], 4)
		}
		for i := range engines {
			if got, want := tellsOf(engines[i]), plains[i].tells(); !reflect.DeepEqual(got, want) {
				t.Fatalf("seed %d: the clone %d tells %s", seed, i, differ(got, want))
			}
		}
	}
}

// rich is an engine in which there is some of everything.
func rich(t *testing.T) *bench {
	t.Helper()
	b := newBench(t, wide, 10, 1, 2, 3, 4)
	b.do(1, "put 5 0 60", "use a", "put 5 9 60", "put 5 0 60", "put 5 0 60", "put 5 0 60", "put 5 1 60")
	b.says(1, cmd("put 3 0 60", "body"), "1: INSERTED 7")
	b.do(2, "watch a", "reserve-job 3", "bury 3 1", "reserve-job 4", "bury 4 2", "reserve-job 5", "ignore default", "pause-tube a 7")
	b.do(3, "watch z", "use y", "ignore default", "reserve-with-timeout 20")
	b.do(2, "reserve")
	b.do(4, "reserve", "use a")
	b.tick(1)
	return b
}

// calls are calls of all kinds.
func calls() []func(e *Engine) {
	list := []func(e *Engine){func(e *Engine) { e.Tick() }, func(e *Engine) { e.Drain() }, func(e *Engine) { e.Join(9) }, func(e *Engine) { e.Leave(9) }}
	for conn := range 5 {
		list = append(list, func(e *Engine) { e.Leave(conn) }, func(e *Engine) { e.Join(conn) })
		for _, line := range []string{
			"put 1 0 9", "put 1 5 9", "use z", "use a", "reserve", "reserve-with-timeout 0", "reserve-with-timeout 5", "kick 1", "kick 9", "watch z", "ignore default", "ignore a",
			"pause-tube a 3", "pause-tube a 0", "pause-tube default 8", "pause-tube z 2", "stats", "list-tubes", "stats-tube a", "peek-buried",
		} {
			list = append(list, func(e *Engine) { e.Do(conn, cmd(line)) })
		}
		for id := range 8 {
			for _, line := range []string{"reserve-job #", "delete #", "release # 1 0", "release # 1 3", "bury # 3", "touch #", "kick-job #", "stats-job #"} {
				c := cmd(strings.ReplaceAll(line, "#", fmt.Sprint(id)))
				list = append(list, func(e *Engine) { e.Do(conn, c) })
			}
		}
	}
	return list
}

// P17.19: what is done to one of the two is never seen at the other, in whatever way one goes on.
func TestCloneApart(t *testing.T) {
	first := tellsOf(rich(t).e)
	for _, call := range calls() {
		e := rich(t).e
		c := e.Clone()
		call(c)
		wantTells(t, e, first)
		other := rich(t).e
		call(other)
		wantTells(t, c, tellsOf(other))

		e = rich(t).e
		c = e.Clone()
		call(e)
		wantTells(t, c, first)
		wantTells(t, e, tellsOf(other))
	}
}

// P17.19: a clone, and a clone of it, do what the first one does.
func TestCloneGoesOn(t *testing.T) {
	for _, call := range calls() {
		list := []*bench{rich(t), rich(t).clone(), rich(t).clone().clone()}
		var told []tells
		for _, b := range list {
			call(b.e)
			for range 12 {
				b.e.Tick()
			}
			b.e.Do(1, cmd("put 0 0 9"))
			b.e.Do(4, cmd("kick 9"))
			told = append(told, tellsOf(b.e))
		}
		if !reflect.DeepEqual(told[0], told[1]) || !reflect.DeepEqual(told[0], told[2]) {
			t.Errorf("a clone tells %s, and %s", differ(told[1], told[0]), differ(told[2], told[0]))
		}
	}
}

// P17.20: tube, body, TTR, Born and id of a job never change; P17.24: no id is given twice, whatever is opened.
type life struct {
	jobs  map[int]api.Job // as they came
	given map[int]int     // how often an id was told by INSERTED
	gone  map[int]int     // how often it was told that a job is deleted
}

func (f *life) see(t *testing.T, what string, e *Engine) {
	t.Helper()
	for _, j := range e.Jobs() {
		old, there := f.jobs[j.Id]
		if !there {
			f.jobs[j.Id] = j
			continue
		}
		if old.Tube != j.Tube || string(old.Body) != string(j.Body) || old.TTR != j.TTR || old.Born != j.Born {
			t.Fatalf("%s: the job %s became %s", what, show(old), show(j))
		}
		if f.gone[j.Id] > 0 {
			t.Fatalf("%s: the job %d was deleted, and is there", what, j.Id)
		}
	}
}

// crash does a beginning of acts, lets the power go, and opens what is left, perhaps more than once; it tells whether all
// acts were done.
func crash(t *testing.T, dice *rand.Rand, c api.Config, now int, d *disk.Disk, acts []api.Act) (*Engine, bool) {
	t.Helper()
	n := dice.Intn(len(acts) + 1)
	whole := n == len(acts)
	for {
		for _, a := range acts[:n] {
			if err := d.Do(a); err != api.OK {
				t.Fatalf("the disk refuses %s: %d", toldAct(a), err)
			}
		}
		d.Crash([]int{dice.Intn(300), dice.Intn(300), dice.Intn(300), dice.Intn(300), dice.Intn(300), dice.Intn(300)})
		e, more, err := Open(c, now, d.Files())
		if err != api.OK {
			t.Fatalf("Open = %d", err)
		}
		acts, n = more, len(more)
		if dice.Intn(3) > 0 {
			for _, a := range acts {
				if err := d.Do(a); err != api.OK {
					t.Fatalf("the disk refuses %s: %d", toldAct(a), err)
				}
			}
			return e, whole
		}
		n = dice.Intn(len(acts) + 1)
	}
}

// P17.20, P17.21, P17.24: plays in which the power goes, in the middle of steps and of openings.
func TestCrashes(t *testing.T) {
	crashes, lost := 0, 0
	for seed := range 300 {
		dice := rand.New(rand.NewSource(int64(seed)))
		c := randomConfig(dice)
		d, _ := disk.New(c.Quota)
		e, _ := crash(t, dice, c, 0, d, nil)
		f := life{map[int]api.Job{}, map[int]int{}, map[int]int{}}
		for n := range 150 {
			what := fmt.Sprint("seed ", seed, ", step ", n)
			p, _, _ := plainOpen(c, e.Now(), d.Files())
			var outs []api.Out
			conn := dice.Intn(3)
			e.Join(conn)
			x := randomCmd(dice, p, c)
			if dice.Intn(8) == 0 {
				outs = e.Tick()
			} else {
				outs, _ = e.Do(holderAt(e, x.Id, conn), x)
			}
			acts, says := parts(t, outs)
			var list []api.Act
			for _, a := range acts {
				list = append(list, a.Act)
			}
			before := e.Stored()
			said := true
			if dice.Intn(6) == 0 {
				e, said = crash(t, dice, c, e.Now(), d, list)
				crashes++
				if !said && !reflect.DeepEqual(ownStored(e.Stored()), ownStored(before)) {
					lost++
				}
			} else {
				for _, a := range list {
					if err := d.Do(a); err != api.OK {
						t.Fatalf("%s: the disk refuses %s: %d", what, toldAct(a), err)
					}
				}
			}
			if said {
				f.hear(t, what, x, says)
			} else {
				f.forget(e)
			}
			wantRight(t, e)
			f.see(t, what, e)
			if t.Failed() {
				t.Fatal(what)
			}
		}
	}
	if crashes < 500 || lost < 200 {
		t.Errorf("the plays are too tame: %d crashes, %d times something was lost", crashes, lost)
	}
}

// hear notes the ids that are told to be given, and to be deleted.
func (f *life) hear(t *testing.T, what string, c api.Cmd, says []api.Out) {
	t.Helper()
	for _, x := range says {
		switch x.Reply.Kind {
		case api.RepInserted:
			f.given[x.Reply.Id]++
			if f.given[x.Reply.Id] > 1 {
				t.Fatalf("%s: the id %d is given twice", what, x.Reply.Id)
			}
		case api.RepDeleted:
			f.gone[c.Id]++
		}
	}
}

// forget lets go what was seen of jobs whose put was never answered, and that a crash has taken.
func (f *life) forget(e *Engine) {
	for id := range f.jobs {
		if f.given[id] == 0 && !slices.ContainsFunc(e.Jobs(), func(j api.Job) bool { return j.Id == id }) {
			delete(f.jobs, id)
		}
	}
}

func holderAt(e *Engine, id, conn int) int {
	for _, j := range e.Jobs() {
		if j.Id == id && j.State == api.Reserved {
			return j.Holder
		}
	}
	return conn
}
